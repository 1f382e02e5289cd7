import PyProof.Rows.All
import Wide.All
import OpenK.AllK
import Wide.FinOn
import Lean
import PyProof.EqAt
import PyProof.EqKinds
import PyProof.TupleCall
import PyProof.NeKinds
import PyProof.Rows.SortStr
import PyProof.Rows.SortWalk
import KE.KDictOf
import PyProof.AttrMissSeq
import KE.KDictSum
import PyProof.ListMulRoad
import PyProof.FactsAll.tuple_2
import OpenK.KRaise
import PyProof.ExcClass3
import PyProof.StationsW
import PyProof.PassesOwn
import PyProof.ExcBaseAll.ValueError
import OpenK.KOwn
import KE.KDictLaws
import PyProof.DictFindH
import PyProof.DictRoadsH
import PyProof.Rows.TupDisplay
import PySem.Challenge.RW_reelhall_k11_whole_other_numbers
set_option Elab.async false
set_option linter.all false
set_option maxRecDepth 100000
set_option maxHeartbeats 8000000
set_option compiler.extract_closed false
local macro_rules|`($a>$b)=>`($a=some $b)
local macro_rules|`(01)=>`(by omega)
local macro_rules|`(02)=>`(by decide)
local macro_rules|`(‹$x›)=>`(by simpa using $x)
local macro_rules|`(tactic|show $x)=>`(tactic|exact $x)
local macro_rules|`(tactic|dsimp[$[$a:simpLemma],*]$[$l:location]?)=>`(tactic|simp only[$[$a:simpLemma],*]$[$l]?)
open Sum.inl renaming inj->NM
open Sum renaming inl->DC,inr->MD
open PySem.Within renaming cons->Da
open PySem.W.Looks renaming here->P7
open PySem.W renaming mg_of->QA,keepIn->pB,mg_none_of->GB,findIn->MB,hideAll->PB,emptyDict->nC,isFn->MC,instObj->ZC,hideAll_none->aD,hideAll_get->pD,fnOf->FD,kia_one->pE,plainGet->XE,codeIn->KF,of_hideAll->LF,hasDictIn->ZF,methodObj->aG,funFrames_hide->ZG,methodCall_KW->sH,lookIn->MH,plainGet_of->ZH,callWith_K->vI,nsIn->UI,plainOver->VI,OpenLaw->MJ,makesIn->NJ,takerIn->OJ,WalkO->YK,excIn->ZK,cellsFrom_some->WL,handedIn->NO
open PySem.Value renaming ref->AB,type->bE,bool->fF,none->UF,int->fI,str->PJ,isStrOf->dU,bytes->sY,float->tY,isInt->uY
open PySem.Str.mk renaming injEq->sM
open PySem.Str renaming ofString->fA,length->uD,empty->DI,append->YL
open PySem.Obj renaming mapSeq->YC,data_mapFields->kG,mapFields->XG,isFreed_of_fields->jO,data_mapDictKeys->MO
open PySem.Heap.UpToSlots renaming of_keeps->iY,refl->jY
open PySem.Heap.SameBut renaming update->SD
open PySem.Heap.IsSliceOf renaming new->gY
open PySem.Heap.DictOf renaming new->iN
open PySem.Heap renaming get?_push_of_some->oA,lt_size->GA,get?_push_size->KA,SameBut->cE,get?_update_other->NE,size_push->OE,get?_update_self->dF,FlyingW->wH,StaysIn->jN,get?_update_ne->DO,ExtBut->B7
open PySem.F renaming plainAttrs_list->XB,slot_dict_setdefault->jC,slot_tuple_iterator_next->wC,args_dict_setdefault_3->tD,entry_dict_setdefault->BD,slot_list_append->lE,type_list_append->mE,args_tuple_iterator_next_1->TF,entry_tuple_iterator_next->gG,args_tuple_add_2->lG,entry_tuple_add->BG,plainAttrs_dict->CG,slot_tuple_add->YG,slot_dict_get->oH,slot_list_pop->pH,type_list_pop->rH,type_dict_setdefault->LJ,args_dict_get_3->DL,entry_dict_get->VL,slot_enumerate_next->lP,entry_list_pop->xW,slot_list_pop->fY
open PySem.Expr renaming Constant->wW
open PySem.Challenge renaming rw_reelhall_k11_whole_other_numbers->GW
open PySem.Calls renaming spliced_cons->RF,callWith_builtin->lH,evalArgs_plain->YH,Constant_str->RI,spliced_nil->hJ,Name_function_global->SK,call_function_entry->AL
open PySem.Builtin.Tuple renaming tupleExact->XD,tupleItemsOf->QI,tupleIsExact->A7
open PySem.Builtin.Str renaming strSliceIndices->HC
open PySem.Builtin.SmallTypes renaming nextOf->ME
open PySem.Builtin.Slice renaming slicePlaces->OD,sliceAdjust->oF,sliceApplied->OI,sliceFields->o7,slicePartIndex->v7
open PySem.Builtin.Range renaming rangeSize->m7
open PySem.Builtin.List renaming listTooLong->BF,listItems->XF,listExtendWith->NI
open PySem.Builtin.Dict renaming updateFrom->GJ,pairItems->aK,addKeywords->Cs,keyAndDefault->Ct,selfAndRest->Cu
open PySem renaming boot_len->vB,bootBuiltins->LB,foldedSetIterable->cC,mem_of_lookup->sC,mainGlobals->NC,codeAny->xE,swapsWith->ZE,Scope->EF,attributeBase->QF,call_meetsIn->DG,closureFor->bH,wpAny_pyIter_enum->AH,Result->jJ,eval_ListComp->gK,swappedStores->iK,swapsWithSole->jK,call_meets->wK,Keyword->UK,call->aL,callerA->bL,concat_meets->cL,noFill_tuple_add->ZL,Within->MM,BindsTo->dN,compPost->PN,typeLookup->QN,wpAny_letOwnedTupleGo_enum->RN,seq_tuple_add->OO,seqIndex?->rP,storedH_new->uS,IsEnum->BW,passOn->HW,builtinsNs->IW,wpAny_Name->KW,Value->rY,wpAny_pyIter_list->vY,wpAny_Dict_empty->R7,wpAny_looks_onW->Dd,DefRec->Tz,GenState->Ua,recursionLimit->Ue
open PyProof.Rows renaming AllBare->wG,IntsAre->TK,failedOf->eL,IsTup->mP,StrsAre->uQ,subscriptTail_builtinR->vQ,sortedHeap->JW,sortedAll->Q7,entry_list_sort->Dc,pairsOf_toList->Ud
open Option.some renaming inj->DB,injEq->DF
open Option renaming bind_eq_some_iff->aA,map_eq_some_iff->cA,bind_some->dA,map_some->wA,bind->RB,map->gC,getD_some->GG,isSome_map->YI,getD_none->wJ,isSome_some->kO,none->FW
open Nat renaming le_refl->rA,le_trans->vA,lt_of_lt_of_le->DA,ne_of_lt->OA,zero_le->EB,le_of_ble_eq_true->VB,le_succ->AC,lt_irrefl->GC,le_of_lt->kE,lt_of_le_of_lt->IE,le_of_eq->WE,eq_or_lt_of_le->jG,lt_succ_self->mH,succ_le_succ->nH,ne_of_gt->KH,zero_add->LH,lt_succ_of_lt->JJ,lt_trans->KJ,add_le_add->TL,not_lt->UL,le_sub_one_of_lt->LO,le_of_lt_succ->YQ,le_succ_of_le->ZQ,min_le_right->rS,succ_ne_self->sS,min_eq_left->bU,not_lt_zero->cU,ble->L7,min_self->M7,sub_zero->O7,one_pos->Cz,max_le->Ub,sub_lt->Uc
open List.cons renaming injEq->pC
open List.Sublist renaming map->Cv,refl->Cy
open List.Perm renaming refl->vE,swap->HJ
open List.Pairwise renaming imp->D7,map->E7,nil->J7
open List renaming mem_cons_of_mem->bA,map_cons->eA,mem_cons_self->gA,length_map->iA,mem_singleton->jA,length_cons->kA,mem_cons->lA,mem_append->nA,replicate->pA,size_toArray->sA,range->uA,mem_of_getElem?->xA,getElem?_eq_some_iff->BA,getElem?_map->CA,mem_append_right->EA,length_append->IA,map_map->JA,mem_map->LA,pairwise_cons->MA,getElem?_set_ne->RA,map_append->UA,getElem?_eq_getElem->VA,getElem?_append_left->XA,lookup_cons->YA,getElem?_set_self->ZA,flatMap_cons->dB,length_singleton->eB,find?_cons->iB,getElem?_cons_zero->jB,mem_filterMap->kB,getElem?_append_right->mB,map_congr_left->nB,append_nil->oB,mem_range->wB,mem_append_left->BB,getElem?_cons_succ->CB,getElem?_replicate->HB,mem_map_of_mem->IB,nodup_cons->OB,nodup_append->QB,forall_mem_cons->TB,getElem?_eq_none->UB,append_assoc->WB,length_eq_zero_iff->YB,cons_append->fC,getElem?_range->iC,nil_append->lC,map_nil->FC,foldl_cons->JC,length_nil->KC,mem_filter->LC,filterMap_cons->OC,forall_mem_nil->QC,mem_flatMap->VC,getD_eq_getElem?_getD->WC,drop_eq_getElem_cons->cD,lookup->fD,mem_iff_getElem->iD,any_cons->mD,eraseIdx_eq_take_drop_succ->sD,filter_eq_self->wD,filter_cons->xD,getElem_mem->AD,not_lt->HD,set_cons_zero->KD,all_eq_true->dE,any_eq_true->eE,mem_replicate->FE,length->HE,length_dropLast->uF,length_set->CF,forIn_nil->YF,ext_getElem?->xG,length_range->AG,drop_length->dH,le_antisymm->fH,take_length->gH,range_succ_eq_map->xH,forIn_cons->IH,lookup_nil->JH,length_filter_le->QH,length_replicate->RH,lt_irrefl->eI,getD->uI,set_cons_succ->XI,any_eq_false->sJ,getElem?_inj->tJ,map->uJ,map_dropLast->vJ,eraseIdxIfInBounds_toArray->IJ,length_drop->bK,length_take->eK,tail->fK,of_mem_zip->FK,idxOf_lt_length_of_mem->WK,drop_zero->BL,range_one->CL,filterMap_cons_some->pM,sum_cons->rM,sum_nil->lN,dropLast_eq_take->MN,dropLast_sublist->NN,getElem?_toArray->ON,mem_of_mem_take->iO,filter_sublist->EO,flatMap_append->GO,length_take_le->JO,take_succ_cons->KO,getElem_idxOf->nP,map_inj_right->oP,map_singleton->pP,mapM_toArray->sQ,take_sublist->tQ,countP_cons->UQ,flatMap_nil->VQ,map_flatMap->WQ,mem_reverse->XQ,map_const'->nS,range_zero->pS,drop_drop->ZT,set->aU,lt_trans->CW,map_drop->DW,map_take->EW,all_map->mY,any_nil->nY,map_set->oY,set_set->pY
open Int renaming toNat_natCast->rB,emod_lt_of_pos->XC,eq_ofNat_of_zero_le->ED,ofNat_lt->LD,emod_nonneg->PD,zero_add->jE,natCast_one->JF,natCast_nonneg->iG,toNat_one->WG,lt_add_one_of_le->sI,not_lt->iJ,ediv_one->KN,ofNat_le->LN,max_eq_right->oS,le_antisymm->WT,min_eq_left->XT,natCast_add->YT,toNat_zero->AW,add_assoc->kY,reduceBEq->lY,le_trans->C7
open Bool renaming false_ne_true->cB,false_eq_true->xB,and_eq_true->NB,beq_eq_decide_eq->bF,eq_iff_iff->AF,or_false->FG,or_eq_true->HH,false_and->dI,true_or->rJ,and_false->wL,and_self->mM,and_true->nM,not_true->oM,or_true->fN,not_false->VT,false_or->uW,true_and->vW
open Array.Perm renaming refl->WI
open Array renaming length_toList->xF,getElem?_toList->GH,toList_inj->FJ,getElem?_eq_some_iff->QK,perm_iff_toList_perm->RK,append_assoc->CO,toList_map->rQ,toList->sW
set_option bootstrap.genMatcherCode false
noncomputable section
abbrev Fg:=PySem.W.Frag
abbrev gF:=PySem.Str->Option rY
abbrev rE:=List<|PySem.Addr×PySem.Obj
abbrev vD:=rY->PySem.Shared->Prop
namespace L2
open PySem
noncomputable def GV(s:Stmt):Arguments:=match s with
 |.FunctionDef _ a _ _ _ _ _ _ _ _=>a
 |_=>{ posonlyargs:=[],args:=[],vararg:=none,kwonlyargs:=[],kw_defaults:=[],kwarg:=none,defaults:=[] }
noncomputable def yF(s:Stmt):List Stmt:=match s with
 |.FunctionDef _ _ b _ _ _ _ _ _ _=>b
 |_=>[]
noncomputable def zI(s:Stmt):EF:=match s with
 |.FunctionDef _ _ _ _ _ _ sc _ _ _=>sc
 |_=>{ kind:=.function,names:=[],isGenerator:=false,isCoroutine:=false }
end L2
namespace K11
open PySem PySem.Spec PyProof.Rows L2
noncomputable def top(i:Nat):Stmt:=PySem.Challenge.pw_reelhall_k11_whole_other_numbers.main.body.getD i<|.Pass ⟨0,0,0,0⟩
noncomputable def mT(j:Nat):Stmt->Stmt
 |.ClassDef _ _ _ body _ _ _ _ _ _ _=>body.getD j<|.Pass ⟨0,0,0,0⟩
 |s=>s
abbrev Nm:Stmt:=top 26
abbrev Lw:Stmt:=top 25
abbrev Lc:Stmt:=top 28
abbrev Kn:Stmt:=top 30
abbrev Lx:Stmt:=top 27
abbrev Ld:Stmt:=top 31
abbrev Ly:Stmt:=top 29
abbrev Ko:Stmt:=top 32
abbrev Mb:Stmt:=top 33
abbrev Lz:Stmt:=top 36
abbrev Kp:Stmt:=top 4
abbrev Np:Stmt:=top 5
abbrev Lm:Stmt:=top 11
abbrev Nq:Stmt:=top 14
abbrev Le:Stmt:=top 15
abbrev Ln:Stmt:=top 3
abbrev Py:Stmt:=top 12
abbrev Nr:Stmt:=top 19
abbrev yU:Stmt:=top 20
abbrev Ma:Stmt:=top 16
abbrev Ky:Stmt:=top 17
abbrev Kq:Stmt:=top 18
abbrev Nt:Stmt:=top 21
abbrev Qy:Stmt:=mT 0<|top 23
abbrev Mh:Stmt:=top 35
abbrev Kl:Stmt:=top 39
abbrev Lo:Stmt:=top 34
abbrev Lf:Stmt:=top 37
abbrev Mi:Stmt:=mT 3<|top 23
abbrev So:Stmt:=mT 2<|top 23
abbrev Mj:Stmt:=mT 4<|top 23
abbrev Pz:Stmt:=mT 5<|top 23
abbrev Ml:Stmt:=top 2
abbrev Lg:Stmt:=mT 6<|top 23
abbrev Qa:Stmt:=mT 8<|top 23
abbrev lV:Stmt:=mT 7<|top 23
abbrev Mc:Stmt:=top 38
abbrev dS:Stmt:=top 40
abbrev QG(K:Fg)(f:Addr)(x q:Str)(st:Stmt):Prop:=∃oc od kV dc pm an cd ct sl,K.lookup f>⟨oc,od,.func<|FD x q (GV st) (yF st) (zI st) .none kV dc pm an cd ct,sl⟩/\KF K cd q=true/\pB K (.ref f)=true
abbrev Gb(K:Fg)(x:Str)(f:Addr):Prop:=UI K NC x>(some<|.ref f)
abbrev Nb(K:Fg)(x:Str):Prop:=UI K NC x>none
abbrev Ab(K:Fg)(C:Addr)(x:Str)(f:Addr):Prop:=MB K (.ref C) x>(some<|.ref f)
def zQ7(K:Fg):Prop:=∀P:Prop,(∀{C np f0 f1 f2 f3 f4 f5 f6 f7 f8 f9 Eu Ew Ex Ey Ez Fb Fc Fe Ff Fi Fj Fk Fm NW Fn Fo Fp Fq dZ eZ fZ gZ Fs hZ iZ jZ Ft j8:Addr}
  {Yh Dy:Option Addr} {Zo:Array (Option Value)} {Yg Hz Ej Ir d8 Ef:Value}
  (aH:Gb K "Hall" C) (aN:Gb K "NoPart" np)
  (a0:Gb K "_law_mix" f0) (p0:QG K f0 "_law_mix" "_law_mix" Nm)
  (a1:Gb K "_law_cell" f1) (p1:QG K f1 "_law_cell" "_law_cell" Lw)
  (a2:Gb K "_law_is_late" f2) (p2:QG K f2 "_law_is_late" "_law_is_late" Lc)
  (a3:Gb K "_law_told_late" f3) (p3:QG K f3 "_law_told_late" "_law_told_late" Kn)
  (a4:Gb K "_law_word" f4) (p4:QG K f4 "_law_word" "_law_word" Lx)
  (a5:Gb K "_law_told_on" f5) (p5:QG K f5 "_law_told_on" "_law_told_on" Ld)
  (a6:Gb K "_law_size" f6) (p6:QG K f6 "_law_size" "_law_size" Ly)
  (a7:Gb K "_law_apart_two" f7) (p7:QG K f7 "_law_apart_two" "_law_apart_two" Ko)
  (a8:Gb K "_law_dance" f8) (p8:QG K f8 "_law_dance" "_law_dance" Mb)
  (a9:Gb K "_law_perm" f9) (p9:QG K f9 "_law_perm" "_law_perm" Lz)
  (Y7:Gb K "renamed_place" Eu) (Yi:QG K Eu "renamed_place" "renamed_place" Kp)
  (Z7:Gb K "renamed" Ew) (Yj:QG K Ew "renamed" "renamed" Np)
  (c8:Gb K "takes_part" Ex) (Yk:QG K Ex "takes_part" "takes_part" Lm)
  (Vh:Gb K "is_turn" Ey) (Yl:QG K Ey "is_turn" "is_turn" Nq)
  (Vi:Gb K "turns_among" Ez) (Ym:QG K Ez "turns_among" "turns_among" Le)
  (Vj:Gb K "choices_of" Fb) (Yn:QG K Fb "choices_of" "choices_of" Ln)
  (Vk:Gb K "apart" Fc) (Yo:QG K Fc "apart" "apart" Py)
  (Vl:Gb K "in_vain" Fe) (Yp:QG K Fe "in_vain" "in_vain" Nr)
  (Vm:Gb K "refuse_waiting_in_vain" Ff) (Yq:QG K Ff "refuse_waiting_in_vain" "refuse_waiting_in_vain" yU)
  (Vn:Gb K "asked_at" Fi) (Yr:QG K Fi "asked_at" "asked_at" Ma)
  (Vo:Gb K "asked_at_all" Fj) (Ys:QG K Fj "asked_at_all" "asked_at_all" Ky)
  (Vp:Gb K "nexts_by_word" Fk) (Yt:QG K Fk "nexts_by_word" "nexts_by_word" Kq)
  (Vq:Gb K "part_of" Fm) (Yu:QG K Fm "part_of" "part_of" Nt)
  (Vr:Ab K C "__init__" NW) (Yv:QG K NW "__init__" "Hall.__init__" Qy)
  (k23:pB K (.ref NW)=true) (Xu:MC K (.ref NW)=true)
  (Vs:Gb K "_law_hall" Fn) (Yw:QG K Fn "_law_hall" "_law_hall" Mh)
  (Vt:Gb K "_law_same_parts" Fo) (Yx:QG K Fo "_law_same_parts" "_law_same_parts" Kl)
  (Vu:Gb K "_law_spoilt" Fp) (Yy:QG K Fp "_law_spoilt" "_law_spoilt" Lo)
  (Vv:Gb K "_law_renamed" Fq) (Yz:QG K Fq "_law_renamed" "_law_renamed" Lf)
  (Vw:Ab K C "state_of" dZ) (Za:QG K dZ "state_of" "Hall.state_of" Mi)
  (Xj:pB K (.ref dZ)=true) (Xv:MC K (.ref dZ)=true)
  (Vx:Ab K C "row" eZ) (Zb:QG K eZ "row" "Hall.row" So)
  (Xk:pB K (.ref eZ)=true) (Xw:MC K (.ref eZ)=true)
  (Vy:Ab K C "moves_of" fZ) (Zc:QG K fZ "moves_of" "Hall.moves_of" Mj)
  (Xl:pB K (.ref fZ)=true) (Xx:MC K (.ref fZ)=true)
  (Vz:Ab K C "moves" gZ) (Zd:QG K gZ "moves" "Hall.moves" Pz)
  (Xm:pB K (.ref gZ)=true) (Xy:MC K (.ref gZ)=true)
  (Wa:Gb K "is_whole" Fs) (Ze:QG K Fs "is_whole" "is_whole" Ml)
  (Wb:Ab K C "can_be_done" hZ) (Zf:QG K hZ "can_be_done" "Hall.can_be_done" Lg)
  (Xn:pB K (.ref hZ)=true) (Xz:MC K (.ref hZ)=true)
  (Wc:Ab K C "go_on" iZ) (Zg:QG K iZ "go_on" "Hall.go_on" Qa)
  (Xo:pB K (.ref iZ)=true) (Ya:MC K (.ref iZ)=true)
  (Wd:Ab K C "do" jZ) (Zh:QG K jZ "do" "Hall.do" lV)
  (Xp:pB K (.ref jZ)=true) (Yb:MC K (.ref jZ)=true)
  (We:Gb K "_law_moved" Ft) (Zi:QG K Ft "_law_moved" "_law_moved" Mc)
  (Wf:Gb K "law" j8) (Xr:K.lookup j8>⟨Yg,Yh,.func<|FD "law" "law" (GV dS) (yF dS) (zI dS) .none Hz Ej Ir Dy d8 Ef,Zo⟩) (Wh:KF K d8 "law" = true) (Xq:pB K (.ref j8)=true)
  (RT:Nb K "len")
  (fO:Nb K "range")
  (pJ:Nb K "enumerate")
  (JM:Nb K "sorted")
  (gO:Nb K "tuple")
  (nQ:Nb K "list")
  (QT:Nb K "int")
  (mQ:Nb K "dict")
  (MI:Nb K "isinstance")
  (NT:Nb K "all")
  (OT:Nb K "any")
  (KM:Nb K "str")
  (lQ:Nb K "bool")
  (q1:XE K C DI=true)
  (q2:ZF K C=true)
  (q3:VI K C=true)
  (q4:MB K (.ref C) "__setattr__" = some (some<|.builtin "object.__setattr__"))
  (q5:NJ K C=true)
  (q6:pB K (.ref C)=true)
  (q7:ZK K np [.type "ValueError",.type "Exception",.type "BaseException",.type "object"] "ValueError.__new__" = true)
  (UN:MB K (.ref C) "parts" = some none)
  (Q1:MB K (.ref C) "at" = some none)
  (VP:MB K (.ref C) "rows" = some none)
  (UP:MB K (.ref C) "past" = some none)
  ,P)->P
open PySem.W
local macro_rules | `(tactic| refine $h:ident $a1 $a2 $a3 $a4 $a5 $a6 $a7 $a8 ?$z:ident $r*) => do let r := r.pop.push (← `($(Lean.mkIdent `wkT) rfl rfl (fun _ _ Y => kIn_of Y) ?hf)); `(tactic| refine' $h $a1 $a2 $a3 $a4 $a5 $a6 $a7 $a8 ?hx $r*)
set_option maxHeartbeats 0 in
theorem GZ (wkT:∀{q:Program}{loose:List Str}{XP:(Str->Option Value)->Heap->Prop}{YP:World->Heap->Prop}{d:Tz}{K:Params->Fg},d.params.defaults=[]->d.name = "law"->(∀(w:World)(h:Heap),YP w h->(K w.params).In h)->(∀w:World,zQ7<|K w.params) ->
  YK q loose XP YP PySem.Challenge.rw_reelhall_k11_whole_other_numbers.row.toRowW d [] (λf vs=>aL f vs)):PySem.Challenge.rw_reelhall_k11_whole_other_numbers.Holds:=by
 w_on;o_law;k_head
 .intro w;kernel_rfl
 (case hw=>w_witness2)
 k_fill
 intro w P k
 refine' k ?_ ?_ ?_ ?_ ?_ ?_ ?_ ?_ ?_ ?_ ?_ ?_ ?_ ?_ ?_ ?_ ?_ ?_ ?_ ?_ ?_ ?_ ?_ ?_ ?_ ?_ ?_ ?_ ?_ ?_ ?_ ?_ ?_ ?_ ?_ ?_ ?_ ?_ ?_ ?_ ?_ ?_ ?_ ?_ ?_ ?_ ?_ ?_ ?_ ?_ ?_ ?_ ?_ ?_ ?_ ?_ ?_ ?_ ?_ ?_ ?_ ?_ ?_ ?_ ?_ ?_ ?_ ?_ ?_ ?_ ?_ ?_ ?_ ?_ ?_ ?_ ?_ ?_ ?_ ?_ ?_ ?_ ?_ ?_ ?_ ?_ ?_ ?_ ?_ ?_ ?_ ?_ ?_ ?_ ?_ ?_ ?_ ?_ ?_ ?_ ?_ ?_ ?_ ?_ ?_ ?_ ?_ ?_ ?_ ?_ ?_ ?_ ?_ ?_ ?_ ?_ ?_ ?_ ?_ ?_
 all_goals try first|k_is|(change UI _ _ _=_;k_is)|(change MB _ _ _=_;k_is)|show⟨_,_,_,_,_,_,_,_,_,by k_is,by k_is,by k_is⟩|kernel_rfl
end K11
namespace L2
open PySem PySem.Spec PyProof.Rows
abbrev kC:=Sum Int Str
noncomputable def TV:kC->Value->Bool
 |.inl k,v=>uY k v
 |.inr x,v=>dU x v
noncomputable def Ib(w:World):kC->Int
 |.inl k=>hashInt k
 |.inr x=>hashStr w x
theorem yS:∀{k:kC}{v:Value},TV k v=true->(∃i t,k=DC i/\v=fI i t)\/(∃x t,k=MD x/\v=PJ x t)
 |.inl i,v,h=>by
  obtain⟨t,e⟩:=Value.isInt_shape (k:=i) (v:=v) h
  show .inl ⟨i,t,rfl,e⟩
 |.inr x,v,h=>by
  obtain⟨t,e⟩:=Value.isStrOf_shape (x:=x) (v:=v) h;show .inr ⟨x,t,rfl,e⟩
theorem zMe(i:Int)(t:Tok):TV (.inl i) (.int i t)=true:=by simp[TV,uY]
theorem zMf(x:Str)(t:Tok):TV (.inr x) (.str x t)=true:=by simp[TV,dU]
theorem zUo(a b:Int):decide ((DC a:kC)=DC b)=(a==b):=by
 by_cases e:a=b
 .subst e;simp
 .have h:¬ (DC a:kC)=DC b:=λq=>e (NM q)
  rw[decide_eq_false h];show(beq_eq_false_iff_ne.mpr e).symm
theorem zUp(a b:Str):decide ((MD a:kC)=MD b)=decide (a=b):=by
 by_cases e:a=b
 .subst e;simp
 .have h:¬ (MD a:kC)=MD b:=λq=>e (Sum.inr.inj q)
  rw[decide_eq_false h,decide_eq_false e]
theorem zUq(a:Int)(b:Str):decide ((DC a:kC)=MD b)=false:=decide_eq_false (λq=>nomatch q)
theorem zUr(a:Str)(b:Int):decide ((MD a:kC)=DC b)=false:=decide_eq_false (λq=>nomatch q)
def z9(prog:Program)(w:World):PySem.KeyKind prog w kC where
 is:=TV
 hash:=Ib w
 inj:=λv a b ha hb=>by
  rcases yS ha with⟨i,t,rfl,rfl⟩|⟨x,t,rfl,rfl⟩
  .rcases yS hb with⟨j,u,rfl,e⟩|⟨y,u,rfl,e⟩
   .injection e with e1 _;rw[e1]
   .show nomatch e
  .rcases yS hb with⟨j,u,rfl,e⟩|⟨y,u,rfl,e⟩
   .show nomatch e
   .injection e with e1 _;rw[e1]
 byValue:=λk v h=>by
  rcases yS h with⟨i,t,rfl,rfl⟩|⟨x,t,rfl,rfl⟩<;>rfl
 pyHash:=λhv h=>by
  rcases yS hv with⟨i,t,rfl,rfl⟩|⟨x,t,rfl,rfl⟩
  .show wpAny_pyHash_int h
  .show wpAny_pyHash_str h
 eqBool:=λhu hv h=>by
  rcases yS hu with⟨i,t,rfl,rfl⟩|⟨x,t,rfl,rfl⟩
  .rcases yS hv with⟨j,u,rfl,rfl⟩|⟨y,u,rfl,rfl⟩
   .rw[zUo]at h;show wpAny_eqBool_int h
   .rw[zUq]at h;show SeqAt.EqAt.int_str i t y u _ _ _ _ h
  .rcases yS hv with⟨j,u,rfl,rfl⟩|⟨y,u,rfl,rfl⟩
   .rw[zUr]at h;show SeqAt.EqAt.str_int x t j u _ _ _ _ h
   .rw[zUp]at h;show wpAny_eqBool_str h
 «strs»:=λk x t v h=>by
  rcases yS h with⟨i,u,rfl,e⟩|⟨y,u,rfl,e⟩
  .show nomatch e
  .injection e with e1 _;subst e1;cases v<;>rfl
theorem zJe(prog:Program)(w:World)(i:Int)(t:Tok):(z9 prog w).is (.inl i) (.int i t)=true:=zMe i t
theorem zJf(prog:Program)(w:World)(x:Str)(t:Tok):(z9 prog w).is (.inr x) (.str x t)=true:=zMf x t
end L2
namespace L2
open PySem PySem.Spec PyProof.Rows
inductive V where
 |non|bl (b:Bool)|int (i:Int)|str (x:Str)|byt (b:Array UInt8)|flt (b:UInt64)|ref (a:Addr)|ty (n:String)
 deriving DecidableEq
def yj:V->Value->Prop
 |.non,u=>u=UF
 |.bl b,u=>u=fF b
 |.int i,u=>∃t,u=fI i t
 |.str x,u=>∃t,u=PJ x t
 |.byt b,u=>∃t,u=sY b t
 |.flt b,u=>∃t,u=tY b t
 |.ref a,u=>u=AB a
 |.ty n,u=>u=bE n
abbrev yK:List V->List Value->Prop:=Paired yj
theorem yK.length{xs:List V}{us:List Value}(r:yK xs us):xs.length=us.length:=Paired.length r
theorem yK.get:∀{xs:List V}{us:List Value}{i:Nat}{x:V},yK xs us->xs[i]?>x->∃u,us[i]?>u/\yj x u
 |_,_,_,_,.nil,e=>by simp at e
 |_,_,0,_,.cons r _,e=>by simp at e;subst e;show⟨_,rfl,r⟩
 |_,_,i+1,x,.cons _ t,e=>by
  obtain⟨u,h1,h2⟩:=yK.get (i:=i) (x:=x) t ‹e›;show⟨u,‹h1›,h2⟩
theorem yK.set(r:yj x u):∀{xs:List V}{us:List Value}(i:Nat),yK xs us->yK (xs.set i x) (us.set i u)
 |_,_,_,.nil=>.nil
 |_,_,0,.cons _ t=>.cons r t
 |_,_,i+1,.cons q t=>.cons q<|yK.set r i t
theorem yK.append{xs ys:List V}{us ws:List Value}(h:yK xs us)(s:yK ys ws):yK (xs++ys) (us++ws):=by
 induction h with
 |nil=>show s
 |cons r t ih=>show .cons r ih
theorem yK.take:∀{xs:List V}{us:List Value}(n:Nat),yK xs us->yK (xs.take n) (us.take n)
 |_,_,0,_=>.nil
 |_,_,_+1,.nil=>.nil
 |_,_,n+1,.cons r t=>.cons r<|yK.take n t
theorem yK.drop:∀{xs:List V}{us:List Value}(n:Nat),yK xs us->yK (xs.drop n) (us.drop n)
 |_,_,0,r=>r
 |_,_,_+1,.nil=>.nil
 |_,_,n+1,.cons _ t=>yK.drop n t
def CK:Option V->Option Value->Prop
 |some v,some u=>yj v u
 |none,none=>True
 |_,_=>False
def KV{κ:Type}:List (κ×V)->List (κ×Value)->Prop:=Paired λ(p:κ×V) (q:κ×Value)=>p.1=q.1/\yj p.2 q.2
noncomputable def kV:kC->V
 |.inl i=>.int i
 |.inr x=>.str x
inductive HO where
  |lst (xs:List V)
  |tup (xs:List V)
  |dK (kvs:List (kC×V))|dT (kvs:List (List kC×V))
  |set (S:Int->Bool) (n:Nat)
  |ins (C dx:Addr) (fs:List (Str×V))
  |own (x:Addr)
  |xd (fs:List (Str×V))
  |met (f x:Addr)
  |rng (lo hi:Int)
  |frz (o:Obj) (u:HO)
  |tbl (ps:Array Value)
  |ext (φ:Heap->Prop)
def uO(h:Heap)(a:Addr)(items:Array Value):Prop:=∃o,h.get? a>o/\o.cls=.type "tuple"/\∃n,o.data=.seq items n/\o.dict=none
theorem uO.tup(x:uO h a items):mP h a items:=let ⟨o,e,c,n,d,_⟩:=x;⟨o,e,c,n,d⟩
theorem uO.lt{h:Heap}(x:uO h a items):a<h.objs.size:=x.tup.lt
theorem uO.new(h:Heap)(items:Array Value):uO (h.push { cls:=.type "tuple",data:=.seq items }) h.objs.size items:=⟨_,KA _ rfl,rfl,_,rfl,rfl⟩
abbrev Hp:=Addr->Option HO
noncomputable def upd(H:Hp)(a:Addr)(o:HO):Hp:=λb=>if b=a then some o else H b
theorem zL{H:Hp}{a:Addr}{o:HO}:upd H a o a>o:=by unfold upd;rw[if_pos rfl]
theorem upd_ne{H:Hp}{a b:Addr}{o:HO}(h:b≠a):upd H a o b=H b:=by unfold upd;rw[if_neg h]
theorem Sr{H:Hp}{a b:Addr}{o u:HO}(h:H a>o)(h':H b>u)(d:o≠u):a≠b:=by
 intro e;subst e;rw[h]at h';show d<|DB h'
theorem yV{H:Hp}{a b:Addr}{o:HO}(h:H a>o)(h':H b=none):a≠b:=by
 intro e;subst e;rw[h]at h';cases h'
section
variable (P:Program)(w:World)
def BJ(H:Hp)(h:Heap)(a:Addr):HO->Prop
 |.lst xs=>xs.length<=sizeLine/\∃(its:List Value)(n:Nat),yK xs its/\h.get? a>{ cls:=.type "list",data:=.seq its.toArray n }
 |.tup xs=>xs.length<=sizeLine/\∃its:List Value,yK xs its/\uO h a its.toArray
 |.dK kvs=>kvs.length<=sizeLine/\(a==sysModules)=false/\∃vs,KV kvs vs/\h.DictOf (z9 P w) a vs
 |.dT kvs=>kvs.length<=sizeLine/\(a==sysModules)=false/\∃xs:List (List kC×Addr×Value),
   Paired (λ(p:List kC×V) (q:List kC×Addr×Value)=>p.1=q.1/\H q.2.1>(.tup<|p.1.map kV)/\yj p.2 q.2.2) kvs xs /\
   ∃o es ep,h.get? a>o/\o.ExactDict/\o.data=.dict es ep/\es.toList=xs.map (entryOfKey<|tupleKind<|z9 P w)/\(xs.map (·.1)).Nodup
 |.set S n=>h.SetOf (intKind P w) a S n
 |.ins C dx fs=>H dx>.own a/\fs.length<=1000/\dx≠a/\h.get? a>ZC C dx /\
   ∃mA,h.Ns1 dx mA/\(∀f,CK (fs.lookup f)<|mA f)/\MM mA (fs.map (·.1))
 |.own _=>∃o,h.get? a>o
 |.xd fs=>∃mA,h.Ns1 a mA/\∀f,CK (fs.lookup f)<|mA f
 |.rng lo hi=>∃t u v,h.get? a>{ cls:=.type "range",data:=.fields #[.int lo t,.int hi u,.int 1 v] }
 |.frz o u=>h.get? a>o/\BJ H h a u
 |.tbl ps=>h.get? a>{ cls:=.none,data:=.fields ps }
 |.met f x=>h.get? a>(aG (.ref f)<|.ref x)
 |.ext φ=>φ h/\(∃o,h.get? a>o)/\∀h1 h2:Heap,φ h1->(∀o,h1.get? a>o->h2.get? a>o)->φ h2
def HOk(H:Hp)(h:Heap):Prop:=∀a o,H a>o->BJ P w H h a o
end
section
variable {P:Program}{w:World}{H H':Hp}{h h':Heap}{a:Addr}{o:HO}
theorem BJ.lt(x:BJ P w H h a o):a<h.objs.size:=by
 cases o with
 |lst xs=>obtain⟨_,_,_,_,e⟩:=x;show GA e
 |tup xs=>obtain⟨_,_,_,p⟩:=x;show p.lt
 |dK kvs=>obtain⟨_,_,_,_,o,_,_,e,_⟩:=x;show GA e
 |dT kvs=>obtain⟨_,_,_,_,o,_,_,e,_⟩:=x;show GA e
 |set S n=>obtain⟨o,_,_,_,e,_⟩:=x;show GA e
 |ins C dx fs=>obtain⟨_,_,_,e,_⟩:=x;show GA e
 |own y=>obtain⟨_,e⟩:=x;show GA e
 |xd fs=>obtain⟨_,⟨_,_,_,e,_⟩,_⟩:=x;show GA e
 |rng lo hi=>obtain⟨_,_,_,e⟩:=x;show GA e
 |frz ob u=>obtain⟨e,_⟩:=x;show GA e
 |tbl ps=>show GA<|show h.get? a>_ from x
 |met f y=>show GA<|show h.get? a>_ from x
 |ext j=>obtain⟨_,⟨_,e⟩,_⟩:=x;show GA e
theorem Paired.mapP{α j:Type}{F G:α->j->Prop}{l₁:List α}{l₂:List j}(h:Paired F l₁ l₂)(f:∀a b,F a b->G a b):Paired G l₁ l₂:=by
 induction h with
 |nil=>show .nil
 |cons r t ih=>show .cons (f _ _ r) ih
theorem Paired.imp'{α j:Type}{F G:α->j->Prop}(f:∀a b,F a b->G a b){l₁:List α}{l₂:List j}(r:Paired F l₁ l₂):Paired G l₁ l₂:=Paired.mapP r f
theorem BJ.stay(x:BJ P w H h a o)(k:∀b u,(b=a\/H b>.own a)->h.get? b>u->h'.get? b>u)
  (O:∀b,H b>.own a->H' b>.own a) (U:∀b xs,H b>.tup xs->H' b>.tup xs):BJ P w H' h' a o:=by
 induction o with
 |lst xs=>obtain⟨z,its,n,r,e⟩:=x;show⟨z,its,n,r,k _ _ (.inl rfl) e⟩
 |tup xs=>obtain⟨z,its,r,ob,e,c⟩:=x;show⟨z,its,r,ob,k _ _ (.inl rfl) e,c⟩
 |dK kvs=>obtain⟨z,y,vs,r,ob,es,j,e,c⟩:=x;show⟨z,y,vs,r,ob,es,j,k _ _ (.inl rfl) e,c⟩
 |dT kvs=>
  obtain⟨z,y,xs,r,ob,es,j,e,c⟩:=x
  show⟨z,y,xs,Paired.mapP r λp q z=>⟨z.1,U _ _ z.2.1,z.2.2⟩,ob,es,j,k _ _ (.inl rfl) e,c⟩
 |set S n=>obtain⟨ob,es,j,t,e,c⟩:=x;show⟨ob,es,j,t,k _ _ (.inl rfl) e,c⟩
 |ins C dx fs=>
  obtain⟨d,z,ne,e,mA,⟨I,es,j,J,c⟩,r⟩:=x
  show⟨O _ d,z,ne,k _ _ (.inl rfl) e,mA,⟨I,es,j,k _ _ (.inr d) J,c⟩,r⟩
 |own y=>obtain⟨ob,e⟩:=x;show⟨ob,k _ _ (.inl rfl) e⟩
 |xd fs=>obtain⟨mA,⟨I,es,j,e,c⟩,r⟩:=x;show⟨mA,⟨I,es,j,k _ _ (.inl rfl) e,c⟩,r⟩
 |rng lo hi=>obtain⟨t,u,v,e⟩:=x;show⟨t,u,v,k _ _ (.inl rfl) e⟩
 |frz ob u ih=>obtain⟨e,q⟩:=x;show⟨k _ _ (.inl rfl) e,ih q⟩
 |tbl ps=>
  have e:h.get? a>{ cls:=.none,data:=.fields ps }:=x;change h'.get? a>{ cls:=.none,data:=.fields ps }
  show k a _ (.inl rfl) e
 |met f y=>
  have e:h.get? a>(aG (.ref f)<|.ref y):=x;change h'.get? a>(aG (.ref f)<|.ref y)
  show k a _ (.inl rfl) e
 |ext Y=>obtain⟨p,⟨o,e⟩,st⟩:=x;show⟨st _ _ p λo q=>k _ _ (.inl rfl) q,⟨o,k _ _ (.inl rfl) e⟩,st⟩
theorem HOk.lt(x:HOk P w H h)(e:H a>o):a<h.objs.size:=(x a o e).lt
theorem HOk.fresh(x:HOk P w H h)(e:h.objs.size<=a):H a=none:=by
 cases q:H a with
 |none=>rfl
 |some u=>show absurd (DA (x.lt q) e)<|GC _
theorem HOk.kept(x:HOk P w H h)(k:∀b u,h.get? b>u->h'.get? b>u):HOk P w H h':=λa o e=>
 (x a o e).stay (λb u _ q=>k b u q) (λ_ q=>q) λ_ _ q=>q
theorem HOk.laid(x:HOk P w H h)(k:∀b u,h.get? b>u->h'.get? b>u)(hp:h.objs.size<=a)(new:BJ P w (upd H a o) h' a o):HOk P w (upd H a o) h':=λb u e=>by
 have j:=x.fresh hp;by_cases hb:b=a
 .subst hb;rw[zL]at e;cases e;show new
 .rw[upd_ne hb]at e;show(x b u e).stay (λc v _ q=>k c v q) (λc q=>by rw[upd_ne<|yV q j];show q) λc xs q=>by rw[upd_ne<|yV q j];show q
end
def Rd(H:Hp)(a:Addr)(u:HO):Prop:=H a>u\/∃o,H a>.frz o u
theorem Rd.ok(r:Rd H a u)(x:HOk P w H h):BJ P w H h a u:=by
 rcases r with r|⟨o,r⟩
 .show x a u r
 .obtain⟨_,q⟩:=x a _ r;show q
def FY:Option HO->Prop
 |some (.lst _)=>True
 |some (.dK _)=>True
 |some (.dT _)=>True
 |some (.set _ _)=>True
 |some (.ins _ _ _)=>True
 |some (.ext _)=>True
 |_=>False
section
variable {P:Program}{w:World}{H:Hp}{h h':Heap}{x e:Addr}{o':HO}
theorem HOk.write(ok:HOk P w H h)(I:FY (H x))(he:e=x\/H e>.own x)(k:∀b u,b≠e->h.get? b>u->h'.get? b>u)(J:∃u,h'.get? e>u)
  (new:BJ P w (upd H x o') h' x o'):HOk P w (upd H x o') h':=λb u q=>by
 have Z0:∀c y,H c>.own y->c≠x:=λc y r z=>by subst z;rw[r]at I;show I
 have Ik:∀c xs,H c>.tup xs->c≠x:=λc xs r z=>by subst z;rw[r]at I;show I
 by_cases hb:b=x
 .subst hb;rw[zL]at q;cases q;show new
 .rw[upd_ne hb]at q;by_cases j:b=e
  .have q':H b>.own x:=by
    rcases he with z|z
    .show absurd (j.trans z) hb
    .rw[j];show z
   rw[q]at q';cases q';obtain⟨v,hv⟩:=J;show⟨v,by rw[j];show hv⟩
  .refine(ok b u q).stay (λc v hc r=>k c v ?_ r) (λc r=>by rw[upd_ne<|Z0 c b r];show r) λc xs r=>by rw[upd_ne<|Ik c xs r];show r
   rcases hc with rfl|hc
   .show j
   .rintro rfl;rcases he with z|z
    .show Z0 c b hc z
    .rw[hc]at z;cases z;show hb rfl
end
structure Un(fs ex:List Addr)(H H':Hp)(h h':Heap):Prop where
 keep:∀b o,h.get? b>o->H b=none->b∉fs->b∉ex->h'.get? b>o
 slot:∀b o,h.get? b>o->H b=none->b∈fs->b∉ex->∃sl,h'.get? b>{ o with slots:=sl }
 free:∀b o,h.get? b>o->H b=none->b∉ex->H' b=none
 there:∀b o,h.get? b>o->b∉ex->∃o',h'.get? b>o'
 tups:∀b xs,H b>.tup xs->H' b>.tup xs
 frzs:∀b o u,H b>.frz o u->H' b>.frz o u
 tbls:∀b ps,H b>.tbl ps->∃more,H' b>(.tbl<|ps++more)
section
variable {fs fs' ex ex':List Addr}{H H1 H2:Hp}{h h1 h2 h':Heap}{a x e:Addr}{o:HO}
theorem Un.any(u:Un fs ex H H1 h h1){b:Addr}{ob:Obj}(q:h.get? b>ob)(n:H b=none)(hx:b∉ex):∃j,h1.get? b>{ ob with slots:=j }:=by
 by_cases hb:b∈fs
 .show u.slot b ob q n hb hx
 .show⟨ob.slots,u.keep b ob q n hb hx⟩
theorem Un.kept(k:∀b u,h.get? b>u->h'.get? b>u):Un fs ex H H h h':=
 ⟨λb ob q _ _ _=>k b ob q,λb ob q _ _ _=>⟨ob.slots,k b ob q⟩,λ_ _ _ n _=>n,λb ob q _=>⟨ob,k b ob q⟩,λ_ _ q=>q,λ_ _ _ q=>q,λ_ ps q=>⟨#[],by rw[q];simp⟩⟩
theorem Un.refl:Un fs ex H H h h:=Un.kept λ_ _ q=>q
theorem Un.laid(k:∀b u,h.get? b>u->h'.get? b>u)(hp:h.objs.size<=a)(j:H a=none):Un fs ex H (upd H a o) h h' where
 keep:=λb u q _ _ _=>k b u q
 slot:=λb u q _ _ _=>⟨u.slots,k b u q⟩
 free:=λb u q n _=>by rw[upd_ne<|OA<|DA (GA q) hp];show n
 there:=λb u q _=>⟨u,k b u q⟩
 tups:=λb xs q=>by rw[upd_ne<|yV q j];show q
 frzs:=λb u xs q=>by rw[upd_ne<|yV q j];show q
 tbls:=λb ps q=>⟨#[],by rw[upd_ne<|yV q j,q];simp⟩
theorem Un.write(j:FY (H x))(he:e=x\/H e>.own x)(k:∀b u,b≠e->h.get? b>u->h'.get? b>u)(J:∃u,h'.get? e>u):Un fs ex H (upd H x o) h h':=by
 have hx:∀b,H b=none->b≠x:=λb n z=>by subst z;rw[n]at j;show j
 have hb:∀b,H b=none->b≠e:=λb n z=>by
  subst z;rcases he with r|r
  .show hx b n r
  .rw[n]at r;cases r
 have hm:∀b u,H b>u->¬ FY (some u)->b≠x:=λb u q nm z=>by subst z;rw[q]at j;show nm j
 refine⟨λb u q n _ _=>k b u (hb b n) q,λb u q n _ _=>⟨u.slots,k b u (hb b n) q⟩,λb u q n _=>by rw[upd_ne<|hx b n];show n,λb u q _=>?_,
  λb xs q=>by rw[upd_ne<|hm b _ q λz=>z];show q,λb u xs q=>by rw[upd_ne<|hm b _ q λz=>z];show q,λb ps q=>⟨#[],by rw[upd_ne<|hm b _ q λz=>z,q];simp⟩⟩
 by_cases I:b=e
 .subst I;show J
 .show⟨u,k b u I q⟩
end
noncomputable def vV(h:Heap)(H:Hp):List Addr:=(uA h.objs.size).filter λa=>(H a).isSome
def kS(h:Heap)(H:Hp):Heap:=PB h<|vV h H
theorem zMg(h:Heap)(H:Hp):(kS h H).objs.size=h.objs.size:=PySem.W.hideAll_size _ _
theorem zPQ{h:Heap}(e:h.get? b>o)(n:H b=none):(kS h H).get? b>o:=
 pD _ e λhm=>by
  have q:(H b).isSome=true:=(LC.mp hm).2;rw[n]at q;simp at q
theorem zSB{h:Heap}(e:(kS h H).get? b>o):h.get? b>o/\H b=none:=by
 have e':h.get? b>o:=LF (vV h H) e;refine⟨e',?_⟩
 cases q:H b with
 |none=>rfl
 |some x=>
  have hm:b∈vV h H:=LC.mpr ⟨wB.mpr<|GA e',by simp[q]⟩;have z:(kS h H).get? b=none:=aD (vV h H) hm;rw[z]at e;cases e
noncomputable def zSC(g h:Heap)(L:Addr):rE:=(uA h.objs.size).filterMap λa=>if a=L\/(g.get? a).isSome=true then none else (h.get? a).map λo=>(a,o)
def rest(g h:Heap)(L d:Addr):rE:=(zSC g h L).filter λp=>decide<|p.1≠d
end L2
namespace L2
open PySem PySem.Spec PyProof.Rows
structure Mod(K:Fg)(mg:gF)(base:Heap):Prop where
 kin:K.In base
 glob:base.Ns NC mg
 blt:∃mb,base.Ns IW mb/\∀x:Str,x ≠ "__name__"->mb x=LB x
 nolimit:base.NoLimit
structure Cx where
 prog:Program
 w:World
 K:Fg
 mg:gF
 base:Heap
 A:Around
 N:List Str
 s₀:Shared
 H₀:Hp
 env:Env
 outer:List Env
 stack:List Env
 ex:List Addr
 fn:Str->Bool
 calm:Bool
 pn:rE
 xe:vD
noncomputable def BH(l:List Env):List Addr:=l.filterMap (·.frame)
abbrev Cx.fs(X:Cx):List Addr:=BH X.outer
def Dv(sc:EF)(x:Str):Prop:=sc.names.lookup x>.local\/sc.names.lookup x>.cell\/sc.names.lookup x>.free
def Loc(sc:EF)(x:Str):Prop:=sc.names.lookup x>.local\/sc.names.lookup x>.cell
def Look(env:Env)(h:Heap)(m:gF)(x:Str)(u:Value):Prop:=
 (env.kindOf x>.local/\m x>u)\/((env.kindOf x>.cell\/env.kindOf x>.free)/\∃c,env.cells.lookup x>c/\h.IsCell c (some u))
structure Cx.Ok(X:Cx):Prop where
 mod:Mod X.K X.mg X.base
 kind:X.env.scope.kind=.function
 glob:X.env.globals=NC
 blt:X.env.builtins=IW
 above:X.s₀.heap.objs.size<=X.env.locals
 inj:∀x y c,X.env.cells.lookup x>c->X.env.cells.lookup y>c->x=y
 has:∀x,(X.env.kindOf x>.cell\/X.env.kindOf x>.free)->∃c,X.env.cells.lookup x>c
 cab:∀x c,X.fn x=true->X.env.cells.lookup x>c->X.s₀.heap.objs.size<=c
 hd:X.calm=true->X.A.handled=none
 frames:X.A.frames>X.stack
 stk:X.stack=X.outer\/(X.stack=X.env::X.outer/\X.env.frame>X.env.locals)
 exf:∀b∈X.ex,b≠X.env.locals/\∀x c,X.env.cells.lookup x>c->c≠b
 bs:∀b o,X.base.get? b>o->X.s₀.heap.get? b>o/\X.H₀ b=none
 bsz:X.base.objs.size<=X.s₀.heap.objs.size
 noex:∀b o,X.base.get? b>o->b∉X.ex
 exfs:∀b∈X.ex,b∉X.fs
 funs:X.s₀.heap.FunFrames X.base X.outer
 frf:∀b∈X.fs,X.H₀ b=none
structure Inv(X:Cx)(pins:rE)(σ:List (Option V))(H:Hp)(s:Shared):Prop where
 ok:X.Ok
 os:s.os=X.s₀.os
 bare:wG s.gens
 base:Un X.fs X.ex X.H₀ H X.s₀.heap s.heap
 loc:∃m,s.heap.Ns X.env.locals m/\∀(i:Nat)(x:Str)(v:V),X.N[i]?>x->σ[i]?>some v->Dv X.env.scope x->∃u,yj v u/\Look X.env s.heap m x u
 cell:∀x c,X.env.cells.lookup x>c->∃v,s.heap.IsCell c v
 free:H X.env.locals=none
 freeC:∀x c,X.env.cells.lookup x>c->H c=none
 pin:∀p∈X.pn++pins,s.heap.get? p.1>p.2/\H p.1=none/\p.1≠X.env.locals/\p.1∉X.fs/\∀v,p.2.data≠.cell v
 hok:HOk X.prog X.w H s.heap
 len:σ.length=X.N.length
section
variable {X:Cx}{pins:rE}{σ:List (Option V)}{H H':Hp}{s:Shared}{h':Heap}
theorem Cx.Ok.nofr(ok:X.Ok)(e:X.base.get? b>o):b∉X.fs:=λhb=>by
 have:=(ok.funs.mem hb).1;rw[e]at this;cases this
theorem Inv.bs(I:Inv X pins σ H s):∀b o,X.base.get? b>o->s.heap.get? b>o/\H b=none:=λb o e=>
 ⟨I.base.keep b o (I.ok.bs b o e).1 (I.ok.bs b o e).2 (I.ok.nofr e)<|I.ok.noex b o e,I.base.free b o (I.ok.bs b o e).1 (I.ok.bs b o e).2<|I.ok.noex b o e⟩
theorem Inv.bk(I:Inv X pins σ H s):∀b o,X.base.get? b>o->s.heap.get? b>o:=λb o e=>(I.bs b o e).1
theorem Inv.mod(I:Inv X pins σ H s):Mod X.K X.mg X.base:=I.ok.mod
theorem Inv.kIn(I:Inv X pins σ H s):X.K.In s.heap:=I.ok.mod.kin.keeps I.bk
theorem Inv.lt(I:Inv X pins σ H s):X.env.locals<s.heap.objs.size:=let ⟨_,hn,_⟩:=I.loc;hn.lt
theorem Inv.sz(I:Inv X pins σ H s):X.s₀.heap.objs.size<=s.heap.objs.size:=vA I.ok.above<|kE I.lt
theorem Inv.nofs(I:Inv X pins σ H s)(h:s.heap.objs.size<=a):a∉X.fs:=λhb=>by
 obtain⟨_,o,j,_⟩:=I.ok.funs.mem hb;show absurd (DA (GA j)<|vA I.sz h)<|GC _
theorem Inv.cne(I:Inv X pins σ H s):∀x c,X.env.cells.lookup x>c->c≠X.env.locals:=λx c e z=>by
 obtain⟨v,o,j,hd⟩:=I.cell x c e;obtain⟨m,⟨o',es,S,J,O,_⟩,_⟩:=I.loc;rw[z,J]at j;cases j;rw[O]at hd;cases hd
theorem Inv.funs(I:Inv X pins σ H s):s.heap.FunFrames X.base X.outer:=by
 have all:∀(l:List Env),(∀b∈BH l,b∈X.fs)->X.s₀.heap.FunFrames X.base l->s.heap.FunFrames X.base l:=by
  intro l
  induction l with
  |nil=>intro _ _;trivial
  |cons env r ih=>
   intro hs j;obtain⟨hk,⟨L,o,hf,J,O,hd⟩,hr⟩:=j;have hL:L∈X.fs:=hs L (by unfold BH;rw[OC,hf];show gA);obtain⟨S,e⟩:=I.base.slot L o O (I.ok.frf L hL) hL λz=>I.ok.exfs L z hL
   show⟨hk,⟨L,_,hf,J,e,hd⟩,ih (λb hb=>hs b (by unfold BH;rw[OC,hf];show bA _ hb)) hr⟩
 show all X.outer (λ_ hb=>hb) I.ok.funs
theorem Inv.stack(I:Inv X pins σ H s):s.heap.FunFrames X.base X.stack:=by
 rcases I.ok.stk with e|⟨e,hf⟩
 .rw[e];show I.funs
 .rw[e];obtain⟨m,j,_⟩:=I.loc;refine .cons (by rw[I.ok.kind];decide) hf j ?_ I.funs;show Heap.get?_none_of_le<|vA I.ok.bsz I.ok.above
theorem Inv.stkSub(I:Inv X pins σ H s):∀b∈BH X.stack,b∈X.env.locals::X.fs:=λb hb=>by
 rcases I.ok.stk with e|⟨e,hf⟩
 .rw[e]at hb;show bA _ hb
 .rw[e]at hb;unfold BH at hb;rw[OC,hf]at hb;show hb
theorem Inv.stkFree(I:Inv X pins σ H s):∀b∈BH X.stack,H b=none:=λb hb=>by
 rcases lA.mp (I.stkSub b hb) with e|hb
 .rw[e];show I.free
 .obtain⟨_,o,j,_⟩:=I.ok.funs.mem hb;show I.base.free b o j (I.ok.frf b hb) λz=>I.ok.exfs b z hb
theorem Inv.step{g':Array Ua}{t':Nat}{d':Drawn}{ch:List Addr}(I:Inv X pins σ H s)
  (S:∀b∈ch,(b∈X.ex\/X.s₀.heap.objs.size<=b)/\b≠X.env.locals/\(∀x c,X.env.cells.lookup x>c->c≠b)/\∀p∈X.pn++pins,p.1≠b)
  (keep:∀b o,b≠X.env.locals->b∉X.fs->b∉ch->s.heap.get? b>o->H b=none->h'.get? b>o)
  (slot:∀b o,b≠X.env.locals->b∈X.fs->b∉ch->s.heap.get? b>o->H b=none->∃sl,h'.get? b>{ o with slots:=sl }) (free:∀b o,b∉ch->s.heap.get? b>o->H b=none->H' b=none)
  (there:∀b o,b∉ch->s.heap.get? b>o->∃o',h'.get? b>o')
  (tups:∀b xs,H b>.tup xs->H' b>.tup xs) (frzs:∀b o u,H b>.frz o u->H' b>.frz o u) (tbls:∀b ps,H b>.tbl ps->∃Z,H' b>(.tbl<|ps++Z))
  (ns:∀m,s.heap.Ns X.env.locals m->h'.Ns X.env.locals m) (hok:HOk X.prog X.w H' h') (hg:wG g') :
  Inv X pins σ H' { s with heap:=h',gens:=g',drawn:=d',toks:=t' }:=by
 have V0:∀b o,X.s₀.heap.get? b>o->b≠X.env.locals:=λb o e=>OA<|DA (GA e) I.ok.above
 have xR:∀b o,X.s₀.heap.get? b>o->b∉X.ex->b∉ch:=λb o e hx hb=>by
  rcases(S b hb).1 with z|z
  .show hx z
  .show absurd (DA (GA e) z)<|GC _
 have j:∀x c,X.env.cells.lookup x>c->∀v,s.heap.IsCell c v->h'.IsCell c v:=λx c e v=>by
  rintro⟨o,O,hd⟩;have U:c∉ch:=λz=>(S c z).2.2.1 x c e rfl
  by_cases hc:c∈X.fs
  .obtain⟨sl,q⟩:=slot c o (I.cne x c e) hc U O<|I.freeC x c e;show⟨_,q,hd⟩
  .show⟨o,keep c o (I.cne x c e) hc U O<|I.freeC x c e,hd⟩
 refine⟨I.ok,I.os,hg,⟨λb o e n hb hx=>?_,λb o e n hb hx=>?_,λb o e n hx=>?_,λb o e hx=>?_,λb xs e=>tups b xs<|I.base.tups b xs e,λb o xs e=>frzs b o xs<|I.base.frzs b o xs e,λb ps e=>?_⟩,?_,λx c e=>?_,?_,λx c e=>?_,λp hp=>?_,hok,I.len⟩
 .show keep b o (V0 b o e) hb (xR b o e hx) (I.base.keep b o e n hb hx)<|I.base.free b o e n hx
 .obtain⟨sl,J⟩:=I.base.slot b o e n hb hx;obtain⟨cX,Y⟩:=slot b _ (V0 b o e) hb (xR b o e hx) J<|I.base.free b o e n hx;show⟨cX,Y⟩
 .obtain⟨o',J⟩:=I.base.there b o e hx;show free b o' (xR b o e hx) J<|I.base.free b o e n hx
 .obtain⟨o',J⟩:=I.base.there b o e hx;show there b o' (xR b o e hx) J
 .obtain⟨m1,J⟩:=I.base.tbls b ps e;obtain⟨m2,Y⟩:=tbls b _ J;show⟨m1++m2,by rw[Y,CO]⟩
 .obtain⟨m,hn,hl⟩:=I.loc;refine⟨m,ns m hn,λi x v J Y e3=>?_⟩;obtain⟨u,r,l⟩:=hl i x v J Y e3;refine⟨u,r,?_⟩;rcases l with l|⟨k,c,e,z⟩
  .show .inl l
  .show .inr ⟨k,c,e,j x c e _ z⟩
 .obtain⟨v,z⟩:=I.cell x c e;show⟨v,j x c e v z⟩
 .obtain⟨m,⟨o,_,_,O,_⟩,_⟩:=I.loc;show free _ o (λz=>(S _ z).2.1 rfl) O I.free
 .obtain⟨v,o,O,hd⟩:=I.cell x c e;show free c o (λz=>(S c z).2.2.1 x c e rfl) O<|I.freeC x c e
 .obtain⟨e,n,ne,nf,d⟩:=I.pin p hp;have U:p.1∉ch:=λz=>(S p.1 z).2.2.2 p hp rfl
  show⟨keep p.1 p.2 ne nf U e n,free p.1 p.2 U e n,ne,nf,d⟩
theorem Inv.stepN{g':Array Ua}{t':Nat}{d':Drawn}{ch:List Addr}(I:Inv X pins σ H s)
  (S:∀b∈ch,(b∈X.ex\/X.s₀.heap.get? b=none)/\b≠X.env.locals/\(∀x c,X.env.cells.lookup x>c->c≠b)/\∀p∈X.pn++pins,p.1≠b)
  (keep:∀b o,b≠X.env.locals->b∉X.fs->b∉ch->s.heap.get? b>o->H b=none->h'.get? b>o)
  (slot:∀b o,b≠X.env.locals->b∈X.fs->b∉ch->s.heap.get? b>o->H b=none->∃sl,h'.get? b>{ o with slots:=sl }) (free:∀b o,b∉ch->s.heap.get? b>o->H b=none->H' b=none)
  (there:∀b o,b∉ch->s.heap.get? b>o->∃o',h'.get? b>o')
  (tups:∀b xs,H b>.tup xs->H' b>.tup xs) (frzs:∀b o u,H b>.frz o u->H' b>.frz o u) (tbls:∀b ps,H b>.tbl ps->∃Z,H' b>(.tbl<|ps++Z))
  (ns:∀m,s.heap.Ns X.env.locals m->h'.Ns X.env.locals m) (hok:HOk X.prog X.w H' h') (hg:wG g') :
  Inv X pins σ H' { s with heap:=h',gens:=g',drawn:=d',toks:=t' }:=by
 have V0:∀b o,X.s₀.heap.get? b>o->b≠X.env.locals:=λb o e=>OA<|DA (GA e) I.ok.above
 have xR:∀b o,X.s₀.heap.get? b>o->b∉X.ex->b∉ch:=λb o e hx hb=>by
  rcases(S b hb).1 with z|z
  .show hx z
  .rw[z]at e;cases e
 have j:∀x c,X.env.cells.lookup x>c->∀v,s.heap.IsCell c v->h'.IsCell c v:=λx c e v=>by
  rintro⟨o,O,hd⟩;have U:c∉ch:=λz=>(S c z).2.2.1 x c e rfl
  by_cases hc:c∈X.fs
  .obtain⟨sl,q⟩:=slot c o (I.cne x c e) hc U O<|I.freeC x c e;show⟨_,q,hd⟩
  .show⟨o,keep c o (I.cne x c e) hc U O<|I.freeC x c e,hd⟩
 refine⟨I.ok,I.os,hg,⟨λb o e n hb hx=>?_,λb o e n hb hx=>?_,λb o e n hx=>?_,λb o e hx=>?_,λb xs e=>tups b xs<|I.base.tups b xs e,λb o xs e=>frzs b o xs<|I.base.frzs b o xs e,λb ps e=>?_⟩,?_,λx c e=>?_,?_,λx c e=>?_,λp hp=>?_,hok,I.len⟩
 .show keep b o (V0 b o e) hb (xR b o e hx) (I.base.keep b o e n hb hx)<|I.base.free b o e n hx
 .obtain⟨sl,J⟩:=I.base.slot b o e n hb hx;obtain⟨cX,Y⟩:=slot b _ (V0 b o e) hb (xR b o e hx) J<|I.base.free b o e n hx;show⟨cX,Y⟩
 .obtain⟨o',J⟩:=I.base.there b o e hx;show free b o' (xR b o e hx) J<|I.base.free b o e n hx
 .obtain⟨o',J⟩:=I.base.there b o e hx;show there b o' (xR b o e hx) J
 .obtain⟨m1,J⟩:=I.base.tbls b ps e;obtain⟨m2,Y⟩:=tbls b _ J;show⟨m1++m2,by rw[Y,CO]⟩
 .obtain⟨m,hn,hl⟩:=I.loc;refine⟨m,ns m hn,λi x v J Y e3=>?_⟩;obtain⟨u,r,l⟩:=hl i x v J Y e3;refine⟨u,r,?_⟩;rcases l with l|⟨k,c,e,z⟩
  .show .inl l
  .show .inr ⟨k,c,e,j x c e _ z⟩
 .obtain⟨v,z⟩:=I.cell x c e;show⟨v,j x c e v z⟩
 .obtain⟨m,⟨o,_,_,O,_⟩,_⟩:=I.loc;show free _ o (λz=>(S _ z).2.1 rfl) O I.free
 .obtain⟨v,o,O,hd⟩:=I.cell x c e;show free c o (λz=>(S c z).2.2.1 x c e rfl) O<|I.freeC x c e
 .obtain⟨e,n,ne,nf,d⟩:=I.pin p hp;have U:p.1∉ch:=λz=>(S p.1 z).2.2.2 p hp rfl
  show⟨keep p.1 p.2 ne nf U e n,free p.1 p.2 U e n,ne,nf,d⟩
theorem Inv.un{t':Nat}(I:Inv X pins σ H s)(u:Un X.fs [] H H' s.heap h')(hok:HOk X.prog X.w H' h'):Inv X pins σ H' { s with heap:=h',toks:=t' }:=by
 obtain⟨m,⟨o,es,Y,J,r⟩,_⟩:=id I.loc;obtain⟨sl,hL⟩:=u.any J I.free (by simp)
 show I.step (g':=s.gens) (d':=s.drawn) (ch:=[]) (λ_ z=>nomatch z) (λb o _ hb _ e n=>u.keep b o e n hb<|by simp) (λb o _ hb _ e n=>u.slot b o e n hb<|by simp) (λb o _ e n=>u.free b o e n<|by simp) (λb o _ e=>u.there b o e<|by simp) u.tups u.frzs u.tbls (λZ hm=>by
  obtain⟨o',U,O,j,S⟩:=hm;rw[J]at j;cases j;show⟨_,U,O,hL,S⟩) hok I.bare
theorem Inv.call{g':Array Ua}{t':Nat}{d':Drawn}{ch:List Addr}(I:Inv X pins σ H s)(u:Un (BH X.stack) ch H H' s.heap h')(hok:HOk X.prog X.w H' h')(U:wG g')
  (J:∀b∈ch,(b∈X.ex\/X.s₀.heap.objs.size<=b)/\b≠X.env.locals/\(∀x c,X.env.cells.lookup x>c->c≠b)/\∀p∈X.pn++pins,p.1≠b) :
  Inv X pins σ H' { s with heap:=h',gens:=g',drawn:=d',toks:=t' }:=by
 obtain⟨m,⟨o,es,ep,O,r⟩,_⟩:=id I.loc;obtain⟨sl,hL⟩:=u.any O I.free λz=>(J _ z).2.1 rfl
 show I.step (ch:=ch) J (λb o hL hb hc e n=>u.keep b o e n (λz=>(lA.mp<|I.stkSub b z).elim hL hb) hc) (λb o _ _ hc e n=>u.any e n hc) (λb o hc e n=>u.free b o e n hc) (λb o hc e=>u.there b o e hc) u.tups u.frzs u.tbls (λm' hm=>by
  obtain⟨o',Z,S,j,Y⟩:=hm;rw[O]at j;cases j;show⟨_,Z,S,hL,Y⟩) hok U
theorem Inv.turned{t':Nat}{it:Addr}(I:Inv X pins σ H s)(k:∀b o,b≠it->s.heap.get? b>o->h'.get? b>o)(O:H it=none)(hL:it≠X.env.locals)
  (h1:it∈X.ex\/X.s₀.heap.objs.size<=it) (h2:∀x c,X.env.cells.lookup x>c->c≠it) (h3:∀p∈X.pn++pins,p.1≠it):Inv X pins σ H { s with heap:=h',toks:=t' }:=by
 have j:∀b u,H b>u->b≠it:=λb u e z=>by rw[z,O]at e;cases e
 refine I.step (g':=s.gens) (d':=s.drawn) (ch:=[it]) (λb hb=>?_) (λb o _ _ hc e _=>k b o (λz=>hc<|by simp[z]) e) (λb o _ _ hc e _=>⟨o.slots,k b o (λz=>hc<|by simp[z]) e⟩) (λ_ _ _ _ n=>n)
  (λb o hc e=>⟨o,k b o (λz=>hc<|by simp[z]) e⟩) (λ_ _ e=>e) (λ_ _ _ e=>e) (λb ps e=>⟨#[],by rw[e];simp⟩) (λm hm=>?_) (λb u e=>?_) I.bare
 .have e:b=it:=‹hb›
  subst e;show⟨h1,hL,h2,h3⟩
 .obtain⟨o,es,J,S,r⟩:=hm;show⟨o,es,J,k _ o (Ne.symm hL) S,r⟩
 .refine(I.hok b u e).stay (λc v hc q=>k c v ?_ q) (λ_ q=>q) λ_ _ q=>q
  rcases hc with z|z
  .rw[z];show j b u e
  .show j c _ z
theorem Inv.tok(I:Inv X pins σ H s)(t:Nat):Inv X pins σ H { s with toks:=t }:=I.un (h':=s.heap) (t':=t) Un.refl I.hok
theorem Inv.kept{t':Nat}(I:Inv X pins σ H s)(k:∀b u,s.heap.get? b>u->h'.get? b>u):Inv X pins σ H { s with heap:=h',toks:=t' }:=I.un (Un.kept k)<|I.hok.kept k
theorem Inv.laid{t':Nat}(I:Inv X pins σ H s)(k:∀b u,s.heap.get? b>u->h'.get? b>u)(hp:s.heap.objs.size<=a)(new:BJ X.prog X.w (upd H a o) h' a o):
  Inv X pins σ (upd H a o) { s with heap:=h',toks:=t' }:=I.un (Un.laid k hp<|I.hok.fresh hp)<|I.hok.laid k hp new
theorem Inv.write{t':Nat}(I:Inv X pins σ H s)(z:FY (H x))(he:e=x\/H e>.own x)(k:∀b u,b≠e->s.heap.get? b>u->h'.get? b>u)(j:∃u,h'.get? e>u)(new:BJ X.prog X.w (upd H x o) h' x o):Inv X pins σ (upd H x o) { s with heap:=h',toks:=t' }:=I.un (Un.write z he k j)<|I.hok.write z he k j new
theorem Inv.pins_of(I:Inv X pins σ H s)(h:∀p∈j,s.heap.get? p.1>p.2/\H p.1=none/\p.1≠X.env.locals/\p.1∉X.fs/\∀v,p.2.data≠.cell v):Inv X j σ H s:=
 ⟨I.ok,I.os,I.bare,I.base,I.loc,I.cell,I.free,I.freeC,λp hp=>(nA.mp hp).elim (λz=>I.pin p<|BB _ z)<|h p,I.hok,I.len⟩
theorem zKW{N:List Str}(J:N.Nodup){i j:Nat}{x:Str}(a:N[i]?>x)(b:N[j]?>x):i=j:=by
 obtain⟨h1,z⟩:=BA.mp a;obtain⟨h2,I⟩:=BA.mp b;show(List.getElem_inj J).mp (z.trans I.symm)
theorem zII{E:vD}{i:Nat}{x:Str}{u:Value}{Q:Unit->Shared->Prop}(I:Inv X pins σ H s)(hN:X.N.Nodup)(hi:X.N[i]?>x)(hx:Loc X.env.scope x)(r:yj v u)(h:∀s',Inv X pins (σ.set i<|some v) H s'->(∃a,cE a s.heap s'.heap/\(a=X.env.locals\/X.env.cells.lookup x>a))->Q () s')(hf:X.fn x=true\/X.env.scope.names.lookup x>.local:=by first|show .inl rfl|show .inr rfl|assumption):wpAny M A (storeName X.env x u) Q E s:=by
 obtain⟨m,hn,hl⟩:=id I.loc;have Gs:(X.env.scope.kind==.class || (X.env.scope.kind==.module&&X.env.locals != X.env.globals))=false:=by rw[I.ok.kind];rfl
 have LZ:i<σ.length:=by rw[I.len];show(BA.mp hi).1
 have cne:=I.cne
 have O:∀{a:Addr}{h':Heap},(∃o,s.heap.get? a>o/\H a=none)->cE a s.heap h'->HOk X.prog X.w H h':=λ{a h'} ha hs b ob e=>by
  obtain⟨_,_,IS⟩:=ha;refine(I.hok b ob e).stay (λc Z hc q=>(hs.2 c ?_).trans q) (λ_ q=>q) λ_ _ q=>q
  rintro rfl;rcases hc with rfl|hc
  .rw[IS]at e;cases e
  .rw[IS]at hc;cases hc
 rcases hx with hk|hk
 .refine wpAny_storeName_local hk hn (λh' Hf hs=>?_) Gs;obtain⟨oL,_,_,hoL,_⟩:=id hn;refine h _ ⟨I.ok,I.os,I.bare,⟨λb o e n hb hx=>?_,λb o e n hb hx=>?_,I.base.free,λb o e hx=>?_,I.base.tups,I.base.frzs,I.base.tbls⟩,⟨_,Hf,λj y v' J S e3=>?_⟩,λy c e=>?_,I.free,I.freeC,λp hp=>?_,O ⟨oL,hoL,I.free⟩ hs,‹I.len›⟩ ⟨_,hs,.inl rfl⟩
  .show(hs.2 b<|OA<|DA (GA e) I.ok.above).trans (I.base.keep b o e n hb hx)
  .obtain⟨sl,J⟩:=I.base.slot b o e n hb hx;show⟨sl,(hs.2 b<|OA<|DA (GA e) I.ok.above).trans J⟩
  .obtain⟨o',J⟩:=I.base.there b o e hx;show⟨o',(hs.2 b<|OA<|DA (GA e) I.ok.above).trans J⟩
  .by_cases U:j=i
   .subst U;rw[hi]at J;cases J;rw[ZA LZ]at S;cases S;show⟨u,r,.inl ⟨hk,by simp⟩⟩
   .rw[RA<|Ne.symm U]at S;obtain⟨u',r',q⟩:=hl j y v' J S e3;refine⟨u',r',?_⟩;rcases q with⟨k,e⟩|⟨k,c,e,z⟩
    .refine .inl ⟨k,?_⟩;have:y≠x:=λe=>U (zKW hN J<|e ▸ hi)
     simp[this,e]
    .show .inr ⟨k,c,e,z.sameBut hs<|cne y c e⟩
  .obtain⟨Z,z⟩:=I.cell y c e;show⟨Z,z.sameBut hs<|cne y c e⟩
  .obtain⟨e,n,ne,nf,d⟩:=I.pin p hp;show⟨(hs.2 p.1 ne).trans e,n,ne,nf,d⟩
 .have Gw:X.fn x=true:=by
   rcases hf with z|z
   .show z
   .rw[z]at hk;cases hk
  obtain⟨c,hc⟩:=I.ok.has x<|.inl hk;obtain⟨Z,z⟩:=I.cell x c hc;refine wpAny_storeName_cell I.ok.kind hk hc z (λh' AZ hs=>?_);obtain⟨oc,Xb,Hj⟩:=id z;refine h { s with heap:=h' } ⟨I.ok,I.os,I.bare,⟨λb o e n hb hx=>?_,λb o e n hb hx=>?_,I.base.free,λb o e hx=>?_,I.base.tups,I.base.frzs,I.base.tbls⟩,⟨m,hn.sameBut hs<|Ne.symm<|cne x c hc,λj y v' J S e3=>?_⟩,λy Y e=>?_,I.free,I.freeC,λp hp=>?_,O ⟨oc,Xb,I.freeC x c hc⟩ hs,‹I.len›⟩ ⟨c,hs,.inr hc⟩
  .show(hs.2 b<|OA<|DA (GA e)<|I.ok.cab x c Gw hc).trans (I.base.keep b o e n hb hx)
  .obtain⟨sl,J⟩:=I.base.slot b o e n hb hx;show⟨sl,(hs.2 b<|OA<|DA (GA e)<|I.ok.cab x c Gw hc).trans J⟩
  .obtain⟨o',J⟩:=I.base.there b o e hx;show⟨o',(hs.2 b<|OA<|DA (GA e)<|I.ok.cab x c Gw hc).trans J⟩
  .by_cases U:j=i
   .subst U;rw[hi]at J;cases J;rw[ZA LZ]at S;cases S;show⟨u,r,.inr ⟨.inl hk,c,hc,AZ⟩⟩
   .rw[RA<|Ne.symm U]at S;obtain⟨u',r',q⟩:=hl j y v' J S e3;refine⟨u',r',?_⟩;rcases q with q|⟨k,Y,e,z'⟩
    .show .inl q
    .refine .inr ⟨k,Y,e,z'.sameBut hs ?_⟩;rintro rfl;show U<|zKW hN J<|I.ok.inj _ _ _ e hc ▸ hi
  .by_cases n8:Y=c
   .subst n8;show⟨_,AZ⟩
   .obtain⟨w2,z2⟩:=I.cell y Y e;show⟨w2,z2.sameBut hs n8⟩
  .obtain⟨e,n,ne,nf,d⟩:=I.pin p hp;refine⟨(hs.2 p.1 ?_).trans e,n,ne,nf,d⟩;intro q;rw[q,Xb]at e;have q':oc=p.2:=DB e;show d Z (by rw[<- q'];show Hj)
theorem Oo{E:vD}{Q:Unit->Shared->Prop}(I:Inv X pins σ H s)(z:X.N.Nodup)(hi:X.N[i]?>x)(hx:Loc X.env.scope x)(r:yj v u)(h:∀s',Inv X pins (σ.set i<|some v) H s'->Q () s')(hf:X.fn x=true\/X.env.scope.names.lookup x>.local:=by first|show .inl rfl|show .inr rfl|assumption):wpAny M A (storeName X.env x u) Q E s:=
 zII I z hi hx r (λs' j _=>h s' j) hf
theorem Inv.call'{s':Shared}(I:Inv X pins σ H s)(J:s'.os=s.os)(u:Un (BH X.stack) ch H H' s.heap s'.heap)(hok:HOk X.prog X.w H' s'.heap)(z:wG s'.gens)(j:∀b∈ch,(b∈X.ex\/X.s₀.heap.objs.size<=b)/\b≠X.env.locals/\(∀x c,X.env.cells.lookup x>c->c≠b)/\∀p∈X.pn++pins,p.1≠b):Inv X pins σ H' s':=by
 obtain⟨h',g',d',t',o'⟩:=s';have e:o'=s.os:=J;subst e;show I.call (g':=g') (t':=t') (d':=d') u hok z j
end
abbrev XK:=Value->Option Addr->Hp->Prop
abbrev St:=List<|Option V
abbrev VK:=V->Hp->Prop
abbrev TE:=St->Hp->VK->Prop
abbrev TT:=St->Hp->(Bool->Hp->Prop)->Prop
abbrev TA:=St->Hp->(List V->Hp->Prop)->Prop
structure RQ where
 nx:St->Hp->Prop
 rt:VK
 bk:St->Hp->Prop:=λ_ _=>False
 ct:St->Hp->Prop:=λ_ _=>False
abbrev TS:=RQ->St->Hp->Prop
def EP(X:Cx)(pins:rE)(σ:St)(Q:VK)(u:Value)(s':Shared):Prop:=∃v H',Inv X pins σ H' s'/\yj v u/\Q v H'
def TP(X:Cx)(pins:rE)(σ:St)(Q:Bool->Hp->Prop)(b:Bool)(s':Shared):Prop:=∃H',Inv X pins σ H' s'/\Q b H'
def AP(X:Cx)(pins:rE)(σ:St)(Q:List V->Hp->Prop)(us:List Value)(s':Shared):Prop:=∃vs H',Inv X pins σ H' s'/\yK vs us/\Q vs H'
def SP(X:Cx)(pins:rE)(D:RQ)(f:Flow)(s':Shared):Prop:=
 match f with
 |.next=>∃uC H',Inv X pins uC H' s'/\D.nx uC H'
 |.brk=>∃uC H',Inv X pins uC H' s'/\D.bk uC H'
 |.cont=>∃uC H',Inv X pins uC H' s'/\D.ct uC H'
 |.ret u=>∃v uC H',Inv X pins uC H' s'/\yj v u/\D.rt v H'
def PE(X:Cx)(e:Expr)(t:TE):Prop:=
 ∀(pins:rE)(s:Shared)(σ:St)(H:Hp)(Q:VK),Inv X pins σ H s->t σ H Q->wpAny (model X.prog X.w) X.A (eval e X.env) (EP X pins σ Q) X.xe s
def PT(X:Cx)(e:Expr)(t:TT):Prop:=
 ∀(pins:rE)(s:Shared)(σ:St)(H:Hp)(Q:Bool->Hp->Prop),Inv X pins σ H s->t σ H Q->wpAny (model X.prog X.w) X.A (isTrue e X.env<|eval e X.env) (TP X pins σ Q) X.xe s
def PW(X:Cx)(e:Expr)(t:TT):Prop:=
 ∀(whole:Sem Value)(pins:rE)(s:Shared)(σ:St)(H:Hp)(Q:Bool->Hp->Prop),Inv X pins σ H s->t σ H Q->wpAny (model X.prog X.w) X.A (isTrue e X.env whole) (TP X pins σ Q) X.xe s
theorem PW.pt(h:PW X e t):PT X e t:=h _
def PA(X:Cx)(es:List Expr)(t:TA):Prop:=
 ∀(pos:Pos)(pins:rE)(s:Shared)(σ:St)(H:Hp)(Q:List V->Hp->Prop),Inv X pins σ H s->t σ H Q->wpAny (model X.prog X.w) X.A (spliced<|backTo pos<|starEach es X.env) (AP X pins σ Q) X.xe s
def PS(X:Cx)(st:Stmt)(t:TS):Prop:=
 ∀(pins:rE)(s:Shared)(σ:St)(H:Hp)(D:RQ),Inv X pins σ H s->t D σ H->wpAny (model X.prog X.w) X.A (exec st X.env) (SP X pins D) X.xe s
def aM(X:Cx)(st:List Stmt)(t:TS):Prop:=
 ∀(pins:rE)(s:Shared)(σ:St)(H:Hp)(D:RQ),Inv X pins σ H s->t D σ H->wpAny (model X.prog X.w) X.A (execs st X.env) (SP X pins D) X.xe s
theorem UC{α:Type}{t:Sem α}{Q j:α->Shared->Prop}{M:Model}{A:Around}{E:vD}{s:Shared}(h:wpAny M A t Q E s)(hQ:∀a s,Q a s->j a s):wpAny M A t j E s:=wpAny_mono h hQ λ_ _ x=>x
end L2
namespace L2
open PySem PySem.Spec PyProof.Rows
section
variable {X:Cx}
theorem bin(ha:PE X a ta)(hb:PE X b tb){pins:rE}{R:V->V->Hp->Prop}(I:Inv X pins σ H s)(h:ta σ H λx H1=>tb σ H1 λy H2=>R x y H2){α:Type}{Q:α->Shared->Prop}{f:Value->Value->Sem α}(hf:∀v u s2 x y H2,Inv X pins σ H2 s2->yj x v->yj y u->R x y H2->wpAny (model X.prog X.w) X.A (f v u) Q X.xe s2):
  wpAny (model X.prog X.w) X.A (eval a X.env) (λv z=>wpAny (model X.prog X.w) X.A (eval b X.env) (λu J=>wpAny (model X.prog X.w) X.A (f v u) Q X.xe J) X.xe z) X.xe s:=by
 refine UC (ha pins s σ H _ I h) λv s1 zz=>?_
 obtain⟨x,H1,I1,r1,q1⟩:=zz;refine UC (hb pins s1 σ H1 _ I1 q1) λu s2 zz=>?_
 obtain⟨y,H2,j,r2,O⟩:=zz;show hf v u s2 x y H2 j r1 r2 O
def RG(i:Nat):TE:=λσ H Q=>∃v,σ[i]?>some v/\Q v H
def tC(v:V):TE:=λ_ H Q=>Q v H
theorem zUs(z:X.N[i]?>x)(hv:Dv X.env.scope x)(hd:(x==("__debug__" : Str))=false:=by decide)(S:(x==("__classdict__" : Str))=false:=by decide):PE X (.Name x pos) (RG i):=by
 intro pins s σ H Q I h;obtain⟨v,e,h⟩:=h;obtain⟨m,O,J⟩:=I.loc;obtain⟨u,r,l⟩:=J i x v z e hv;have fin:EP X pins σ Q u s:=⟨v,H,I,r,h⟩
 rcases l with⟨hk,hm⟩|⟨hk,c,hc,j⟩
 .show KW (wpAny_loadName_local I.ok.kind hk O hm fin) hd
 .rcases hk with hk|hk
  .show KW (wpAny_loadName_cell I.ok.kind hk hc j fin) hd
  .show KW (wpAny_loadName_free I.ok.kind hk hc j fin S) hd
theorem zQ8{i j pos}:PE X (.Constant (.int i) j pos) (tC<|.int i):=λ_ _ _ H _ I h=>wpAny_Constant_int ⟨.int i,H,I.tok _,⟨_,rfl⟩,h⟩
theorem D1{b j pos}:PE X (.Constant (.bool b) j pos) (tC<|.bl b):=λ_ _ _ H _ I h=>Constant_bool ⟨.bl b,H,I,rfl,h⟩
theorem zUt{j pos}:PE X (.Constant .none j pos) (tC .non):=λ_ _ _ H _ I h=>Constant_none ⟨.non,H,I,rfl,h⟩
theorem zQ9{x j pos}:PE X (.Constant (.str x) j pos) (tC<|.str x):=λ_ _ _ H _ I h=>RI ⟨.str x,H,I.tok _,⟨_,rfl⟩,h⟩
def Gl(X:Cx)(x:Str):Prop:=X.env.kindOf x>.globalImplicit
theorem Ax{E:vD}{Q:vD}(I:Inv X pins σ H s)(j:Gl X x)(hm:X.mg x>u)(h:Q u s)(hd:(x==("__debug__" : Str))=false:=by decide):wpAny (model X.prog X.w) X.A (eval (.Name x pos) X.env) Q E s:=
 SK I.ok.kind j (Calls.loadGlobal_global (by rw[I.ok.glob];show I.mod.glob.keeps I.bk) hm h) hd
theorem VR{E:vD}{Q:vD}(I:Inv X pins σ H s)(j:Gl X x)(hm:X.mg x=none)(hv:LB x>u)(h:Q u s)(z:x ≠ "__name__":=by decide)(hd:(x==("__debug__" : Str))=false:=by decide):wpAny (model X.prog X.w) X.A (eval (.Name x pos) X.env) Q E s:=by
 obtain⟨J,h1,h2⟩:=I.mod.blt;show SK I.ok.kind j (Calls.loadGlobal_builtin (by rw[I.ok.glob];show I.mod.glob.keeps I.bk) hm (by rw[I.ok.blt];show h1.keeps I.bk) ((h2 x z).trans hv) h) hd
theorem zSD(j:Gl X x)(hm:X.mg x=none)(hv:LB x>u)(r:yj v u)(z:x ≠ "__name__":=by decide)(hd:(x==("__debug__" : Str))=false:=by decide):PE X (.Name x pos) (tC v):=
 λ_ _ _ H _ I h=>VR I j hm hv ⟨v,H,I,r,h⟩ z hd
def t2I(ta tb:TE)(k:Int->Int->Hp->Prop):St->Hp->Prop:=λσ H=>ta σ H λx H1=>tb σ H1 λy H2=>∃i j,x=.int i/\y=.int j/\k i j H2
variable {a b:Expr}{ta tb:TE}{pos:Pos}
def PC(X:Cx)(op:CmpOp)(a b:Expr)(t:TE):Prop:=
 ∀(pins:rE)(s:Shared)(σ:St)(H:Hp)(Q:VK),Inv X pins σ H s->t σ H Q ->
  wpAny (model X.prog X.w) X.A (eval a X.env) (λv mC=>wpAny (model X.prog X.w) X.A (eval b X.env) (λu nI=>wpAny (model X.prog X.w) X.A (compareOp op v u) (EP X pins σ Q) X.xe nI) X.xe mC) X.xe s
theorem zKX(b:Expr)(h:op≠.In)(h2:op≠.NotIn):behindInMarks op b=false:=by
 have j:(op==CmpOp.In)=false:=by cases op<;>first|rfl|show absurd rfl h
 have z:(op==CmpOp.NotIn)=false:=by cases op<;>first|rfl|show absurd rfl h2
 cases b<;>simp[behindInMarks,j,z]
def Jm(p:Int->Int->Bool)(ta tb:TE):TE:=λσ H Q=>t2I ta tb (λi j H2=>Q (.bl<|p i j) H2) σ H
abbrev tGt:TE->TE->TE:=Jm λi j=>decide<|j<i
def tB(t:TE):TT:=λσ H Q=>t σ H λx H1=>∃c,x=.bl c/\Q c H1
theorem zUu(h:PC X op a b t)(h1:behindInMarks op b=false:=by first|show zKX _ 02 02|rfl):PE X (.Compare a [op] [b] pos) t:=λpins s σ H Q I j=>wpAny_Compare1 (h pins s σ H Q I j) h1
theorem zRA{op:CmpOp}{t:TE}(h:PC X op a b t)(h1:behindInMarks op b=false:=by first|show zKX _ 02 02|rfl):PT X (.Compare a [op] [b] pos) (tB t):=by
 intro pins s σ H Q I j;refine wpAny_isTrue_Compare1 (UC (h pins s σ H _ I j) λv s1 h1=>UC h1 λu s2 h2=>UC h2 λc s3 z=>?_) h1;obtain⟨x,H1,I1,r1,q1⟩:=z;obtain⟨d,rfl,q⟩:=q1;cases r1;show wpAny_truthy_bool ⟨H1,I1,q⟩
variable {tA R8:TT}{rest:List Expr}
def Jk(t u:TT):TT:=λσ H Q=>t σ H λc H1=>if c=true then u σ H1 Q else Q false H1
def tOr(t u:TT):TT:=λσ H Q=>t σ H λc H1=>if c=true then Q true H1 else u σ H1 Q
def Jt(t:TT):TT:=λσ H Q=>t σ H λc H1=>Q (!c) H1
theorem zSE(ha:PT X a tA):PW X (.BoolOp .And [a] pos) tA:=by
 intro j pins s σ H Q I h;refine isTrue_and (UC (ha pins s σ H Q I h) λc s1 e=>?_)
 cases c with
 |true=>show isTrue_and_nil e
 |false=>show e
theorem zUv(ha:PT X a tA):PW X (.BoolOp .Or [a] pos) tA:=by
 intro j pins s σ H Q I h;refine isTrue_or (UC (ha pins s σ H Q I h) λc s1 e=>?_)
 cases c with
 |false=>show isTrue_or_nil e
 |true=>show e
theorem zUw(ha:PT X a tA)(hb:PW X (.BoolOp .And (b::rest) pos) R8):PW X (.BoolOp .And (a::b::rest) pos) (Jk tA R8):=by
 intro j pins s σ H Q I h;refine isTrue_and (UC (ha pins s σ H _ I h) λc s1 zz=>?_);obtain⟨H1,I1,q1⟩:=zz
 cases c with
 |true=>show hb j pins s1 σ H1 Q I1 q1
 |false=>show⟨H1,I1,q1⟩
theorem P1(ha:PT X a tA)(hb:PW X (.BoolOp .Or (b::rest) pos) R8):PW X (.BoolOp .Or (a::b::rest) pos) (tOr tA R8):=by
 intro j pins s σ H Q I h;refine isTrue_or (UC (ha pins s σ H _ I h) λc s1 zz=>?_);obtain⟨H1,I1,q1⟩:=zz
 cases c with
 |true=>show⟨H1,I1,q1⟩
 |false=>show hb j pins s1 σ H1 Q I1 q1
theorem zUx(ha:PT X a tA):PT X (.UnaryOp .Not a pos) (Jt tA):=by
 intro pins s σ H Q I h;show isTrue_not (ha pins s σ H (λc H1=>Q (!c) H1) I h)
def C3(ta tb:TE):TE:=λσ H Q=>ta σ H λx H1=>∃c,x=.bl c/\if c=true then tb σ H1 Q else Q (.bl false) H1
def Ju(ta tb:TE):TE:=λσ H Q=>ta σ H λx H1=>∃c,x=.bl c/\if c=true then Q (.bl true) H1 else tb σ H1 Q
def Q3(ta:TE):TE:=λσ H Q=>ta σ H λx H1=>∃c,x=.bl c/\Q (.bl<|!c) H1
theorem zUy{op}(h:PE X a t):PE X (.BoolOp op [a] pos) t:=λpins s σ H Q I j=>BoolOp_one<|h pins s σ H Q I j
theorem zUz(ha:PE X a ta)(hb:PE X (.BoolOp .And (b::rest) pos) tb):PE X (.BoolOp .And (a::b::rest) pos) (C3 ta tb):=by
 intro pins s σ H Q I h;refine BoolOp_and (UC (ha pins s σ H _ I h) λv s1 zz=>?_);obtain⟨x,H1,I1,r1,q1⟩:=zz;obtain⟨c,rfl,q1⟩:=q1;cases r1;refine wpAny_truthy_bool ?_
 cases c with
 |true=>show hb pins s1 σ H1 Q I1 q1
 |false=>show⟨.bl false,H1,I1,rfl,q1⟩
theorem J1(ha:PE X a ta)(hb:PE X (.BoolOp .Or (b::rest) pos) tb):PE X (.BoolOp .Or (a::b::rest) pos) (Ju ta tb):=by
 intro pins s σ H Q I h;refine BoolOp_or (UC (ha pins s σ H _ I h) λv s1 zz=>?_);obtain⟨x,H1,I1,r1,q1⟩:=zz;obtain⟨c,rfl,q1⟩:=q1;cases r1;refine wpAny_truthy_bool ?_
 cases c with
 |false=>show hb pins s1 σ H1 Q I1 q1
 |true=>show⟨.bl true,H1,I1,rfl,q1⟩
theorem zU0(ha:PE X a ta):PE X (.UnaryOp .Not a pos) (Q3 ta):=by
 intro pins s σ H Q I h;refine UnaryOp_ (UC (ha pins s σ H _ I h) λv s1 zz=>?_);obtain⟨x,H1,I1,r1,q1⟩:=zz;obtain⟨c,rfl,q1⟩:=q1;cases r1;show not_of<|wpAny_truthy_bool ⟨.bl<|!c,H1,I1,rfl,q1⟩
def tIf(t:TT)(ta tb:TE):TE:=λσ H Q=>t σ H λc H1=>if c=true then ta σ H1 Q else tb σ H1 Q
theorem zPR{c:Expr}(hc:PT X c tA)(ha:PE X a ta)(hb:PE X b tb):PE X (.IfExp c a b pos) (tIf tA ta tb):=by
 intro pins s σ H Q I h;refine wpAny_IfExp (UC (hc pins s σ H _ I h) λd s1 zz=>?_);obtain⟨H1,I1,q1⟩:=zz
 cases d with
 |true=>show ha pins s1 σ H1 Q I1 q1
 |false=>show hb pins s1 σ H1 Q I1 q1
end
end L2
namespace L2
open PySem PySem.Spec PyProof.Rows
def MF(K:Fg)(H:Hp)(a:Addr)(xs:List V):Prop:=
 Rd H a (.lst xs) \/
  ∃(o:Obj)(its:Array Value)(n:Nat),K.lookup a>o/\o.cls=.type "list"/\o.dict=none/\o.data=.seq its n/\its.size<=sizeLine/\yK xs its.toList
def aI(K:Fg)(H:Hp)(a:Addr)(xs:List V):Prop:=
 Rd H a (.tup xs) \/
  ∃(o:Obj)(its:Array Value)(n:Nat),K.lookup a>o/\o.cls=.type "tuple"/\o.dict=none/\o.data=.seq its n/\its.size<=sizeLine/\yK xs its.toList
noncomputable def Dx:Value->Option V
 |.none=>some .non
 |.bool b=>some<|.bl b
 |.int i _=>some<|.int i
 |.str x _=>some<|.str x
 |.bytes b _=>some<|.byt b
 |.float b _=>some<|.flt b
 |.ref a=>some<|.ref a
 |.type n=>some<|.ty n
 |_=>none
theorem yj.abs(r:yj x u):Dx u>x:=by
 cases x with
 |non=>cases r;rfl
 |bl _=>cases r;rfl
 |int _=>obtain⟨t,rfl⟩:=r;rfl
 |str _=>obtain⟨t,rfl⟩:=r;rfl
 |byt _=>obtain⟨t,rfl⟩:=r;rfl
 |flt _=>obtain⟨t,rfl⟩:=r;rfl
 |ref _=>cases r;rfl
 |ty _=>cases r;rfl
theorem yj.inj{x y:V}{u:Value}(r:yj x u)(q:yj y u):x=y:=DB<|r.abs.symm.trans q.abs
theorem yK.inj{xs ys:List V}{us:List Value}(h:yK xs us)(k:yK ys us):xs=ys:=by
 induction h generalizing ys with
 |nil=>cases k;rfl
 |cons r t ih=>cases k with
  |cons j t'=>rw[r.inj j,ih t']
section
variable {X:Cx}{pins:rE}{σ:St}{H:Hp}{s:Shared}{a:Addr}{xs ys:List V}
theorem MF.of{K:Fg}(h:H a>.lst xs):MF K H a xs:=.inl<|.inl h
theorem aI.of{K:Fg}(h:H a>.tup xs):aI K H a xs:=.inl<|.inl h
theorem Inv.list(I:Inv X pins σ H s)(h:MF X.K H a xs):∃its:List Value,yK xs its/\PlainL s.heap a its.toArray/\xs.length<=sizeLine:=by
 rcases h with h|⟨o,its,n,hk,hc,hd,hs,hz,r⟩
 .obtain⟨z,its,n,r,e⟩:=h.ok I.hok;show⟨its,r,⟨_,n,e,rfl,rfl,rfl⟩,z⟩
 .refine⟨its.toList,r,⟨o,n,I.kIn a o hk,hc,hd,‹hs›⟩,?_⟩;have e:=r.length;dsimp[xF]at e;omega
theorem Inv.tupleN(I:Inv X pins σ H s)(h:aI X.K H a xs):∃its:List Value,yK xs its/\uO s.heap a its.toArray/\xs.length<=sizeLine:=by
 rcases h with h|⟨o,its,n,hk,hc,hd,hs,hz,r⟩
 .obtain⟨z,its,r,p⟩:=h.ok I.hok;show⟨its,r,p,z⟩
 .refine⟨its.toList,r,⟨o,I.kIn a o hk,hc,n,‹hs›,hd⟩,?_⟩;have e:=r.length;dsimp[xF]at e;omega
theorem Inv.tuple(I:Inv X pins σ H s)(h:aI X.K H a xs):∃its:List Value,yK xs its/\mP s.heap a its.toArray/\xs.length<=sizeLine:=
 let ⟨its,r,p,z⟩:=I.tupleN h
 ⟨its,r,p.tup,z⟩
theorem Inv.list_inj(I:Inv X pins σ H s)(h:MF X.K H a xs)(h':MF X.K H a ys):xs=ys:=by
 obtain⟨its,r,⟨o,n,e,_,_,d⟩,_⟩:=I.list h;obtain⟨its',j,⟨o',z,e',_,_,d'⟩,_⟩:=I.list h';rw[e]at e';cases e';rw[d]at d';injection d' with d1 _;have:its=its':=‹congrArg sW d1›
 subst this;show r.inj j
theorem Inv.tuple_inj(I:Inv X pins σ H s)(h:aI X.K H a xs)(h':aI X.K H a ys):xs=ys:=by
 obtain⟨its,r,⟨o,e,_,n,d⟩,_⟩:=I.tuple h;obtain⟨its',j,⟨o',e',_,z,d'⟩,_⟩:=I.tuple h';rw[e]at e';cases e';rw[d]at d';injection d' with d1 _;have:its=its':=‹congrArg sW d1›
 subst this;show r.inj j
end
noncomputable abbrev Cx.wish(X:Cx)(E:vD):Cx:={ X with xe:=E }
abbrev Cx.nox(X:Cx):Cx:=X.wish λ_ _=>False
theorem Cx.Ok.wish{X:Cx}(ok:X.Ok)(E:vD):(X.wish E).Ok:=
 ⟨ok.mod,ok.kind,ok.glob,ok.blt,ok.above,ok.inj,ok.has,ok.cab,ok.hd,ok.frames,ok.stk,ok.exf,ok.bs,ok.bsz,ok.noex,ok.exfs,ok.funs,ok.frf⟩
theorem Cx.Ok.unwish{X:Cx}{E:vD}(ok:(X.wish E).Ok):X.Ok:=
 ⟨ok.mod,ok.kind,ok.glob,ok.blt,ok.above,ok.inj,ok.has,ok.cab,ok.hd,ok.frames,ok.stk,ok.exf,ok.bs,ok.bsz,ok.noex,ok.exfs,ok.funs,ok.frf⟩
section
variable {X:Cx}{pins:rE}{σ:St}{H:Hp}{s:Shared}{E:vD}
theorem Inv.wish(I:Inv X pins σ H s)(E:vD):Inv (X.wish E) pins σ H s:=⟨I.ok.wish E,I.os,I.bare,I.base,I.loc,I.cell,I.free,I.freeC,I.pin,I.hok,I.len⟩
theorem Inv.unwish(I:Inv (X.wish E) pins σ H s):Inv X pins σ H s:=⟨I.ok.unwish,I.os,I.bare,I.base,I.loc,I.cell,I.free,I.freeC,I.pin,I.hok,I.len⟩
theorem SP.unwish(h:SP (X.wish E) pins D f s'):SP X pins D f s':=by
 cases f with
 |next=>obtain⟨j,H',I,q⟩:=h;show⟨j,H',I.unwish,q⟩
 |brk=>obtain⟨j,H',I,q⟩:=h;show⟨j,H',I.unwish,q⟩
 |cont=>obtain⟨j,H',I,q⟩:=h;show⟨j,H',I.unwish,q⟩
 |ret u=>obtain⟨v,j,H',I,r,q⟩:=h;show⟨v,j,H',I.unwish,r,q⟩
theorem aM.nox{st:List Stmt}(h:aM X.nox st t):aM X st t:=λpins s σ H D I j=>
 wpAny_mono (h pins s σ H D (I.wish _) j) (λ_ _ q=>q.unwish) λ_ _ z=>False.elim z
end
section
variable {X:Cx}{st:Stmt}{rest:List Stmt}{t u:TS}{e:Expr}{te:TE}{pos:Pos}
def P3:TS:=λD σ H=>D.nx σ H
def Jw(t u:TS):TS:=λD σ H=>t { D with nx:=u D } σ H
theorem zSF:aM X [] P3:=λ_ _ σ H _ I h=>wpAny_execs_nil ⟨σ,H,I,h⟩
theorem zKY(h1:PS X st t)(h2:aM X rest u):aM X (st::rest) (Jw t u):=by
 intro pins s σ H D I h;refine wpAny_execs_cons (UC (h1 pins s σ H { D with nx:=u D } I h) λf s1 q=>?_)
 cases f with
 |next=>
  obtain⟨z,H',j,q⟩:=q
  show h2 pins s1 z H' D j q
 |ret v=>show q
 |brk=>show q
 |cont=>show q
theorem zMh(h1:PS X st t):aM X [st] t:=by
 intro pins s σ H D I h;refine wpAny_execs_cons (UC (h1 pins s σ H D I h) λf s1 q=>?_)
 cases f with
 |next=>show wpAny_execs_nil q
 |ret v=>show q
 |brk=>show q
 |cont=>show q
def J3:TS:=λD σ H=>D.ct σ H
theorem zJg:PS X (.Continue pos) J3:=λ_ _ σ H _ I h=>wpAny_Continue ⟨σ,H,I,h⟩
theorem Inv.quiet{pins:rE}{σ:St}{H:Hp}{s:Shared}(I:Inv X pins σ H s):interactive X.env=false:=by simp[interactive,I.ok.kind]
def O3(te:TE):TS:=λD σ H=>te σ H λ_ H1=>D.nx σ H1
theorem WS(he:PE X e te)(hs:ZE e none pos.line X.env=pure false:=by rfl):PS X (.Expr e pos) (O3 te):=by
 intro pins s σ H D I h;show wpAny_Expr_any (UC (he pins s σ H _ I h) λv s1 ⟨x,H1,I1,r1,q1⟩=>⟨σ,H1,I1,q1⟩) I.quiet hs
def Jv(te:TE):TS:=λD σ H=>te σ H D.rt
theorem Y5(he:PE X e te):PS X (.Return (some e) pos) (Jv te):=by
 intro pins s σ H D I h;show wpAny_Return_some (UC (he pins s σ H _ I h) λv s1 ⟨x,H1,I1,r1,q1⟩=>⟨x,σ,H1,I1,r1,q1⟩)
def Jr(c:TT)(t u:TS):TS:=λD σ H=>c σ H λb H1=>if b=true then t D σ H1 else u D σ H1
theorem zU1{a b:List Stmt}(hc:PT X c tc)(ha:aM X a t)(hb:aM X b u):PS X (.If c a b pos) (Jr tc t u):=by
 intro pins s σ H D I h;refine wpAny_If (UC (hc pins s σ H _ I h) λd s1 zz=>?_);obtain⟨H1,I1,q1⟩:=zz
 cases d with
 |true=>show ha pins s1 σ H1 D I1 q1
 |false=>show hb pins s1 σ H1 D I1 q1
def zU2:TS:=λ_ _ _=>False
theorem zPS:PS X st zU2:=λ_ _ _ _ _ _ h=>h.elim
end
abbrev TG:=V->St->Hp->(St->Hp->Prop)->Prop
abbrev jU:=List V->St->Hp->(St->Hp->Prop)->Prop
def PG(X:Cx)(target:Expr)(t:TG):Prop:=
 ∀(pins:rE)(s:Shared)(σ:St)(H:Hp)(v:V)(u:Value)(Q:St->Hp->Prop),Inv X pins σ H s->yj v u->t v σ H Q ->
  wpAny (model X.prog X.w) X.A (assign target X.env u) (λ_ s'=>∃uC H',Inv X pins uC H' s'/\Q uC H') X.xe s
def iU(X:Cx)(ts:List Expr)(t:jU):Prop:=
 ∀(pins:rE)(s:Shared)(σ:St)(H:Hp)(vs:List V)(us:List Value)(Q:St->Hp->Prop),Inv X pins σ H s->yK vs us->t vs σ H Q ->
  wpAny (model X.prog X.w) X.A (assignInOrder ((assignEach ts X.env).map (·.2)) us) (λ_ s'=>∃uC H',Inv X pins uC H' s'/\Q uC H') X.xe s
abbrev kU:=V->V->V->Hp->(Hp->Prop)->Prop
def GY(X:Cx)(t:kU):Prop:=
 ∀(pins:rE)(s:Shared)(σ:St)(H:Hp)(o i v:V)(ov iv u:Value)(Q:Hp->Prop),Inv X pins σ H s->yj o ov->yj i iv->yj v u->t o i v H Q ->
  wpAny (model X.prog X.w) X.A (setItem ov iv u) (λ_ s'=>∃H',Inv X pins σ H' s'/\Q H') X.xe s
section
variable {X:Cx}{pos:Pos}
def zU3(i:Nat):TG:=λv σ H Q=>Q (σ.set i<|some v) H
theorem zSG(z:X.N.Nodup)(hi:X.N[i]?>x)(hx:Loc X.env.scope x)(hf:X.fn x=true\/X.env.scope.names.lookup x>.local:=by first|show .inl rfl|show .inr rfl|assumption):PG X (.Name x pos) (zU3 i):=by
 intro pins s σ H v u Q I r h;show wpAny_assign_Name (Oo I z hi hx r (λs' j=>⟨_,H,j,h⟩) hf)
def Fy:jU:=λvs σ H Q=>vs=[]/\Q σ H
def nZ(t:TG)(u:jU):jU:=λvs σ H Q=>∃v r,vs=v::r/\t v σ H λuC H'=>u r uC H' Q
theorem zSH:iU X [] Fy:=by
 intro pins s σ H vs us Q I r h;obtain⟨e,h⟩:=h;subst e;cases r;show assignInOrder_nil ⟨σ,H,I,h⟩
theorem zPT{es:List Expr}(h1:PG X e t)(h2:iU X es u)(hs:(assignEach (e::es) X.env).map (·.2)=assign e X.env::(assignEach es X.env).map (·.2):=by rfl):iU X (e::es) (nZ t u):=by
 intro pins s σ H vs us Q I r h;obtain⟨v,O,j,h⟩:=h;subst j
 cases r with
 |cons r J=>
  rw[hs];refine assignInOrder_cons (UC (h1 pins s σ H _ _ _ I r h) λ_ s1 zz=>?_);obtain⟨z,H1,I1,q1⟩:=zz;show h2 pins s1 z H1 _ _ Q I1 J q1
def Ga(K:Fg)(n:Nat)(t:jU):TG:=λv σ H Q=>∃a xs,v=.ref a/\aI K H a xs/\xs.length=n/\t xs σ H Q
theorem zU4(hc:X.calm=true)(h:iU X es t)(S:(assignEach es X.env).length=n:=by rfl)(Y:(assignEach es X.env).findIdx? (·.1)=none:=by rfl):PG X (.Tuple es k pos) (Ga X.K n t):=by
 intro pins s σ H v u Q I r j;obtain⟨a,xs,J,hq,O,j⟩:=j;subst J;cases r;obtain⟨its,z,U,hz⟩:=I.tuple hq;refine assign_Tuple_tuple (I.ok.hd hc) U (by simp[S,<- O,z.length]) Y λh' hx=>?_
 have I1:Inv X pins σ H { s with heap:=h' }:=I.kept (t':=s.toks) λb o e=>hx b o (OA<|GA e) e
 show h pins _ σ H xs _ Q I1 ‹z› j
def Fz(to ti:TE)(t:kU):TG:=λv σ H Q=>to σ H λo H1=>ti σ H1 λi H2=>t o i v H2 λH3=>Q σ H3
theorem zRB{o i:Expr}{to J:TE}{t:kU}(Y:PE X o to)(hi:PE X i J)(hs:GY X t)
  (ha:∀v,assign (.Subscript o i pos) X.env v=(do
   let j <- holding [v] (eval o X.env)
   let z <- holding [v,j] (eval i X.env)
   standAt pos
   holding [v,j,z] (setItem j z v)
   release [v,j,z] []):=by intro _;rfl):PG X (.Subscript o i pos) (Fz to J t):=by
 intro pins s σ H v u Q I r h;rw[ha];refine wpAny_bind (wpAny_holding<|UC (Y pins s σ H _ I h) λj s1 zz=>?_);obtain⟨x,H1,I1,r1,q1⟩:=zz;refine wpAny_bind (wpAny_holding<|UC (hi pins s1 σ H1 _ I1 q1) λz s2 zz=>?_);obtain⟨y,H2,S,r2,Z⟩:=zz;refine wpAny_bind (wpAny_standAt<|wpAny_bind<|wpAny_holding<|UC (hs pins s2 σ H2 x y v j z u _ S r1 r2 r Z) λ_ s3 zz=>?_);obtain⟨O,U,q3⟩:=zz;show wpAny_release ⟨σ,O,U,q3⟩
def D3(te:TE)(g:TG):TS:=λD σ H=>te σ H λx H1=>g x σ H1 D.nx
theorem Qz{tg e:Expr}{te:TE}{g:TG}(he:PE X e te)(j:PG X tg g)(hs:jK [tg] e pos.line X.env=pure false:=by rfl)(z:iK [tg] e X.env=pure none:=by rfl)
  (h1:(assignEach [tg] X.env).map (·.2)=[assign tg X.env]:=by rfl):PS X (.Assign [tg] e pos) (D3 te g):=by
 intro pins s σ H D I h;refine wpAny_Assign_stores (UC (he pins s σ H _ I h) λv s1 J=>?_) hs z;obtain⟨x,H1,I1,r1,q1⟩:=J;rw[h1];show UC (j pins s1 σ H1 x v _ I1 r1 q1) λ_ s2 q=>q
theorem aT{i:Nat}{x:Str}(z:X.N.Nodup)(hi:X.N[i]?>x)(hx:Loc X.env.scope x)(he:PE X e te)(hs:ZE e (some<|.Name x pos') pos.line X.env=pure false:=by rfl)(hf:X.fn x=true\/X.env.scope.names.lookup x>.local:=by first|show .inl rfl|show .inr rfl|assumption):
  PS X (.Assign [.Name x pos'] e pos) (D3 te<|zU3 i):=by
 intro pins s σ H D I h;refine wpAny_Assign_Name (UC (he pins s σ H _ I h) λv s1 J=>?_) hs;obtain⟨y,H1,I1,r1,q1⟩:=J;show Oo I1 z hi hx r1 (λs2 j=>⟨_,H1,j,q1⟩) hf
end
section
variable {X:Cx}{pos:Pos}
def zU5(c:TT)(tb:TS):TS:=λD σ H=>∃W:Nat->St->Hp->Prop,(∃m,W m σ H)/\∀m σ H,W m σ H ->
 c σ H λb H1=>if b=true then ∃N:St->Hp->Prop,(∀uC H',N uC H'->∃m',m'<m/\W m' uC H')/\tb { D with nx:=N,ct:=N,bk:=D.nx } σ H1 else D.nx σ H1
theorem zKZ{body:List Stmt}(hp:PassesOwn (model X.prog X.w) X.A X.env X.xe)(hc:PT X c tc)(hb:aM X body tb):PS X (.While c body [] pos) (zU5 tc tb):=by
 intro pins s σ H D I h;obtain⟨W,⟨m0,w0⟩,turn⟩:=h;refine wpAny_While (codeAny_whileLoop (λn s'=>∃uC H',Inv X pins uC H' s'/\W n uC H') ?_ m0 ⟨σ,H,I,w0⟩);rintro n s1 ⟨J,H1,I1,w1⟩;refine wpAny_passesOwn hp (UC (hc pins s1 J H1 _ I1<|turn n J H1 w1) λb s2 zz=>?_);obtain⟨H2,I2,O⟩:=zz
 cases b with
 |true=>
  obtain⟨N,hN,O⟩:=O;rw[if_pos rfl];refine wpAny_passesOwn hp (UC (hb pins s2 J H2 _ I2 O) λf s3 S=>?_)
  cases f with
  |next=>
   obtain⟨z,j,U,Z⟩:=S;obtain⟨Y,hm,w3⟩:=hN z j Z
   show⟨Y,hm,z,j,U,w3⟩
  |cont=>
   obtain⟨z,j,U,Z⟩:=S;obtain⟨Y,hm,w3⟩:=hN z j Z
   show⟨Y,hm,z,j,U,w3⟩
  |brk=>show S
  |ret v=>show S
 |false=>
  rw[if_neg cB];show wpAny_execs_nil ⟨J,H2,I2,O⟩
end
structure It where
 go:Nat->Hp->Prop
 yld:Nat->Hp->V->Hp->Prop
 stop:Nat->Hp->Prop
def SH(X:Cx)(pins:rE)(H:Hp)(b:Addr):Prop:=
 H b=none/\b≠X.env.locals/\b∉X.fs/\(b∈X.ex\/X.s₀.heap.objs.size<=b)/\(∀x c,X.env.cells.lookup x>c->c≠b)/\∀p∈X.pn++pins,p.1≠b
theorem Inv.fpOk{s:Shared}(I:Inv X pins σ H s)(hb:s.heap.objs.size<=b)(j:H' b=none):SH X pins H' b:=by
 refine⟨j,KH<|DA I.lt hb,I.nofs hb,.inr<|vA I.sz hb,λx c e z=>?_,λp hp z=>?_⟩
 .obtain⟨v,q⟩:=I.cell x c e;show absurd (DA q.lt (by rw[z];show hb))<|GC _
 .show absurd (DA (GA (I.pin p hp).1) (by rw[z];show hb))<|GC _
structure eP(P:Program)(w:World)(K:Fg)(tg:Expr)(J:It)(fp:List Addr)(it:Addr)(tn:Nat->Heap->Prop):Prop where
 mem:it∈fp
 obj:∀i h,tn i h->∀b∈fp,∃o,h.get? b>o/\∀v,o.data≠.cell v
 keep:∀i h h',tn i h->(∀b∈fp,∀o,h.get? b>o->h'.get? b>o)->tn i h'
 item:∀(X:Cx),X.prog=P->X.w=w->X.K=K->X.calm=true->∀(i:Nat)(pins:rE)(s:Shared)(σ:St)(H:Hp)(E:vD),Inv X pins σ H s->(∀b∈fp,SH X pins H b)->tn i s.heap->J.go i H ->
  wpAny (model P w) X.A (pyNext<|.ref it) (λr s1=>∃u,r>u /\
   wpAny (model P w) X.A (letOwnedTupleGo tg (.ref it) u) (λ_ s2=>∃x H',Inv X pins σ H' s2/\yj x u/\J.yld i H x H'/\tn (i+1) s2.heap/\∀b∈fp,H' b=none) E s1) E s
 done:∀(X:Cx),X.prog=P->X.w=w->X.K=K->X.calm=true->∀(i:Nat)(pins:rE)(s:Shared)(σ:St)(H:Hp)(E:vD),Inv X pins σ H s->(∀b∈fp,SH X pins H b)->tn i s.heap->J.stop i H ->
  wpAny (model P w) X.A (pyNext<|.ref it) (λr s1=>r=none/\Inv X pins σ H s1) E s
 self:∀(A:Around)(i:Nat)(s:Shared)(Q:vD)(E:vD),tn i s.heap->Q (.ref it) s->wpAny (model P w) A (pyIter<|.ref it) Q E s
abbrev TI:=St->Hp->(It->Hp->Prop)->Prop
def Vf(X:Cx)(pins:rE)(σ:St)(tg:Expr)(R:It->Hp->Prop)(aV:Value)(s2:Shared):Prop:=
 ∃(it:Addr)(fp:List Addr)(tn:Nat->Heap->Prop)(J:It)(H':Hp),aV=.ref it/\Inv X pins σ H' s2/\eP X.prog X.w X.K tg J fp it tn/\tn 0 s2.heap/\(∀b∈fp,SH X pins H' b)/\R J H'
def PI(X:Cx)(tg iter:Expr)(wi:TI):Prop:=
 ∀(pins:rE)(s:Shared)(σ:St)(H:Hp)(R:It->Hp->Prop),Inv X pins σ H s->wi σ H R ->
  wpAny (model X.prog X.w) X.A (eval iter X.env) (λv s1=>wpAny (model X.prog X.w) X.A (pyIter v) (Vf X pins σ tg R) X.xe s1) X.xe s
theorem Ss{E:vD}{s:Shared}{o:Obj}{Q:Unit->Shared->Prop}(z:s.heap.get? it>o)(hc:o.cls=.type n)(hd:o.data=.fields vs)(j : ["enumerate","zip","dict_itemiterator","dict_reverseitemiterator","odict_iterator","itertools.zip_longest","itertools.pairwise"].contains n=false)(hQ:Q () s):wpAny M A (letOwnedTupleGo tg (.ref it) u) Q E s:=by
 unfold letOwnedTupleGo
 cases tg<;>first
  |show wpAny_pure hQ
  |(cases u<;>first
    |show wpAny_pure hQ
    |(refine wpAny_bind (wpAny_load z ?_)
      rw[hc,hd];change wpAny M A (if (["enumerate","zip","dict_itemiterator","dict_reverseitemiterator","odict_iterator","itertools.zip_longest","itertools.pairwise"].contains n&&vs[0]? == some (rawInt _))=true then _ else _) Q E s;rw[if_neg (by intro h;rw[j,dI]at h;cases h)];show wpAny_pure hQ))
noncomputable def Dp(K:Fg)(a:Addr):It:=
 ⟨λi H=>∃xs x,MF K H a xs/\xs[i]?>x,λi H x H'=>H'=H/\∀xs,MF K H a xs->xs[i]?>x,λi H=>∃xs,MF K H a xs/\xs.length<=i⟩
noncomputable def Dq(K:Fg)(a:Addr):It:=
 ⟨λi H=>∃xs x,aI K H a xs/\xs[i]?>x,λi H x H'=>H'=H/\∀xs,aI K H a xs->xs[i]?>x,λi H=>∃xs,aI K H a xs/\xs.length<=i⟩
noncomputable def CY(lo:Int)(n:Nat):It:=⟨λi _=>i<n,λi H x H'=>H'=H/\x=.int (lo+i),λi _=>n<=i⟩
theorem zMj{P:Program}{w:World}{K:Fg}{tg:Expr}(a it:Addr):eP P w K tg (Dp K a) [it] it (λi h=>h.IsListIter it a i) where
 mem:=by simp
 obj:=λi h st b hb=>by
  have e:b=it:=‹hb›
  subst e;obtain⟨o,e,c,d⟩:=st;show⟨o,e,λv z=>by rw[d]at z;cases z⟩
 keep:=λi h h' st k=>st.at λo e=>k it (by simp) o e
 item:=by
  intro X Y hw hK hc i pins s σ H E I hf st Z;subst Y hw hK;obtain⟨xs,x,hq,hx⟩:=Z;obtain⟨its,rv,p,hz⟩:=I.list hq;obtain⟨u,hu,ru⟩:=rv.get hx;obtain⟨j,J,f2,O,S,U⟩:=hf it (by simp);refine wpAny_pyNext_list_item st p.isList (x:=u) ‹hu› λh' SC sb=>?_
  have I1:Inv X pins σ H { s with heap:=h' }:=I.turned (t':=s.toks) (λb o hb e=>(sb.2 b hb).trans e) j J O S U;obtain⟨o,e,c,d⟩:=id SC;show⟨u,rfl,Ss (s:={ s with heap:=h' }) e c d 02 ⟨x,H,I1,ru,⟨rfl,λys hy=>by rw[I.list_inj hy hq];show hx⟩,SC,λb hb=>(hf b hb).1⟩⟩
 done:=by
  intro X Y hw hK hc i pins s σ H E I hf st Z;subst Y hw hK;obtain⟨xs,hq,hx⟩:=Z;obtain⟨its,rv,p,hz⟩:=I.list hq;obtain⟨j,J,f2,O,S,U⟩:=hf it (by simp);have hl:=rv.length;show wpAny_pyNext_list_end (I.ok.hd hc) st p.isList (by simp;omega) λh' eb=>⟨rfl,I.turned (t':=s.toks) (λb o hb e=>eb b o hb e) j J O S U⟩
 self:=λ_ _ _ _ _ st h=>wpAny_pyIter_listiter st h
theorem zLg{P:Program}{w:World}{K:Fg}{tg:Expr}(a it:Addr):eP P w K tg (Dq K a) [it] it (λi h=>h.IsTupleIter it a i) where
 mem:=by simp
 obj:=λi h st b hb=>by
  have e:b=it:=‹hb›
  subst e;obtain⟨o,e,c,d⟩:=st;show⟨o,e,λv z=>by rw[d]at z;cases z⟩
 keep:=λi h h' st k=>st.at λo e=>k it (by simp) o e
 item:=by
  intro X Y hw hK hc i pins s σ H E I hf st Z;subst Y hw hK;obtain⟨xs,x,hq,hx⟩:=Z;obtain⟨its,rv,p,hz⟩:=I.tuple hq;obtain⟨u,hu,ru⟩:=rv.get hx;obtain⟨j,J,f2,O,S,U⟩:=hf it (by simp);refine wpAny_pyNext_tuple_item st (show s.heap.IsTuple a its.toArray from p) (x:=u) ‹hu› λh' SC sb=>?_
  have I1:Inv X pins σ H { s with heap:=h' }:=I.turned (t':=s.toks) (λb o hb e=>(sb.2 b hb).trans e) j J O S U;obtain⟨o,e,c,d⟩:=id SC;show⟨u,rfl,Ss (s:={ s with heap:=h' }) e c d 02 ⟨x,H,I1,ru,⟨rfl,λys hy=>by rw[I.tuple_inj hy hq];show hx⟩,SC,λb hb=>(hf b hb).1⟩⟩
 done:=by
  intro X Y hw hK hc i pins s σ H E I hf st Z;subst Y hw hK;obtain⟨xs,hq,hx⟩:=Z;obtain⟨its,rv,p,hz⟩:=I.tuple hq;obtain⟨j,J,f2,O,S,U⟩:=hf it (by simp);have hl:=rv.length;show wpAny_pyNext_tuple_end (I.ok.hd hc) st (show s.heap.IsTuple a its.toArray from p) (by simp;omega) λh' eb=>⟨rfl,I.turned (t':=s.toks) (λb o hb e=>eb b o hb e) j J O S U⟩
 self:=λ_ _ _ _ _ st h=>wpAny_pyIter_tupleiter st h
theorem zLh{P:Program}{w:World}{K:Fg}{tg:Expr}(it:Addr)(lo:Int)(n:Nat):eP P w K tg (CY lo n) [it] it (λi h=>IsRangeIter h it (lo+(i:Nat)*1) ((n:Int)-(i:Nat)) 1) where
 mem:=by simp
 obj:=λi h st b hb=>by
  have e:b=it:=‹hb›
  subst e
  show⟨_,st,λv z=>by
   have z':Data.fields _=Data.cell v:=z;cases z'⟩
 keep:=λi h h' st k=>k it (by simp) _ st
 item:=by
  intro X Y hw hK hc i pins s σ H E I hf st Z;subst Y hw hK;obtain⟨j,J,f2,O,S,U⟩:=hf it (by simp);have W:=Walks.range (prog:=X.prog) (w:=X.w) (I.ok.hd hc) it lo 1 n;refine W.item i s _ _ Z st λv h' tk hv SC kk=>?_
  obtain⟨t,rfl⟩:=hv;have I1:Inv X pins σ H { s with heap:=h',toks:=tk }:=I.turned (λb o hb e=>kk b o ‹hb› e) j J O S U;refine⟨_,rfl,Ss (s:={ s with heap:=h',toks:=tk }) (n:="range_iterator") SC rfl rfl 02 ⟨.int<|lo+i,H,I1,⟨t,?_⟩,⟨rfl,rfl⟩,SC,λb hb=>(hf b hb).1⟩⟩;rw[Int.mul_one]
 done:=by
  intro X Y hw hK hc i pins s σ H E I hf st Z;subst Y hw hK;obtain⟨j,J,f2,O,S,U⟩:=hf it (by simp);show wpAny_pyNext_range_end (I.ok.hd hc) st (by have:n<=i:=Z;omega) λh' eb=>⟨rfl,I.turned (t':=s.toks) (λb o hb e=>eb b o hb e) j J O S U⟩
 self:=λ_ _ _ _ _ st h=>wpAny_pyIter_rangeiter st h
end L2
namespace L2
open PySem PySem.Spec PyProof.Rows
section
variable {X:Cx}{tg:Expr}
def VZ(K:Fg)(tl:TE):TI:=λσ H R=>tl σ H λx H1=>∃a,x=.ref a/\(∃xs,MF K H1 a xs)/\R (Dp K a) H1
def Hw(K:Fg)(tl:TE):TI:=λσ H R=>tl σ H λx H1=>∃a,x=.ref a/\(∃xs,aI K H1 a xs)/\R (Dq K a) H1
theorem zSJ{l:Expr}{tl:TE}(j:PE X l tl):PI X tg l (VZ X.K tl):=by
 intro pins s σ H R I h;refine UC (j pins s σ H _ I h) λv s1 zz=>?_
 obtain⟨x,H1,I1,r1,q1⟩:=zz;obtain⟨a,e,⟨xs,hq⟩,q⟩:=q1;subst e;cases r1;obtain⟨its,z,p,hz⟩:=I1.list hq;refine vY p.isList ?_;refine⟨s1.heap.objs.size,[s1.heap.objs.size],_,_,H1,rfl,I1.kept (t':=s1.toks) λb o e=>oA _ e,zMj a _,⟨_,KA _ rfl,rfl,rfl⟩,λb hb=>?_,q⟩;have e:b=s1.heap.objs.size:=‹hb›
 subst e;show I1.fpOk (rA _)<|I1.hok.fresh<|rA _
theorem zU6{l:Expr}{tl:TE}(j:PE X l tl):PI X tg l (Hw X.K tl):=by
 intro pins s σ H R I h;refine UC (j pins s σ H _ I h) λv s1 zz=>?_
 obtain⟨x,H1,I1,r1,q1⟩:=zz;obtain⟨a,e,⟨xs,hq⟩,q⟩:=q1;subst e;cases r1;obtain⟨its,z,p,hz⟩:=I1.tuple hq;refine wpAny_pyIter_tuple (show s1.heap.IsTuple a its.toArray from p) ?_;refine⟨s1.heap.objs.size,[s1.heap.objs.size],_,_,H1,rfl,I1.kept (t':=s1.toks) λb o e=>oA _ e,zLg a _,⟨_,KA _ rfl,rfl,rfl⟩,λb hb=>?_,q⟩;have e:b=s1.heap.objs.size:=‹hb›
 subst e;show I1.fpOk (rA _)<|I1.hok.fresh<|rA _
theorem zKa{pins:rE}{s:Shared}{R:It->Hp->Prop}{E:vD}{lo hi:Int}{t u v:Tok}{tk:Nat}(I:Inv X pins σ H s)(h1 : -(2 ^ 62)<=lo)(h2:lo<2 ^ 62)(h3 : -(2 ^ 62)<=hi)(J:hi<2 ^ 62)(q:R (CY lo (hi-lo).toNat) H):wpAny (model X.prog X.w) X.A (pyIter<|.ref s.heap.objs.size) (Vf X pins σ tg R) E { s with heap:=s.heap.push { cls:=.type "range",data:=.fields #[.int lo t,.int hi u,.int 1 v] },toks:=tk }:=by
 refine wpAny_pyIter_range (IsRange.new ..) (small_one h1 h2 h3 J) ?_;have I1:Inv X pins σ H { s with heap:=s.heap.push { cls:=.type "range",data:=.fields #[.int lo t,.int hi u,.int 1 v] },toks:=tk }:=I.kept λb o e=>oA _ e
 refine⟨(s.heap.push { cls:=.type "range",data:=.fields #[.int lo t,.int hi u,.int 1 v] }).objs.size,[(s.heap.push { cls:=.type "range",data:=.fields #[.int lo t,.int hi u,.int 1 v] }).objs.size],_,_,H,rfl,
  I1.kept (t':=tk) λb o e=>oA _ e,zLh _ lo (hi-lo).toNat,?_,λb hb=>?_,q⟩
 .have j:lo+((0:Nat):Int)*1=lo:=by simp
  have z:(((hi-lo).toNat:Nat):Int)-((0:Nat):Int)=m7 lo hi 1:=by rw[rangeSize_one];split<;>omega
  change IsRangeIter _ _ (lo+((0:Nat):Int)*1) ((((hi-lo).toNat:Nat):Int)-((0:Nat):Int)) 1;rw[j,z];show KA _ rfl
 .have e:b=(s.heap.push { cls:=.type "range",data:=.fields #[.int lo t,.int hi u,.int 1 v] }).objs.size:=‹hb›
  subst e;show I1.fpOk (rA _)<|I1.hok.fresh<|rA _
def WZ(ta:TA):TI:=λσ H R=>ta σ H λvs H1=>∃j:Int,vs=[.int j]/\-(2 ^ 62)<=j/\j<2 ^ 62/\R (CY 0 j.toNat) H1
def XZ(ta:TA):TI:=λσ H R=>ta σ H λvs H1=>∃i j:Int,vs=[.int i,.int j]/\(-(2 ^ 62)<=i/\i<2 ^ 62/\-(2 ^ 62)<=j/\j<2 ^ 62)/\R (CY i (j-i).toNat) H1
theorem zMk(z:Gl X "range")(hm:X.mg "range" = none)(ha:PA X [a] ta)(hs:starEach [a] X.env=[(false,eval a X.env)]:=by rfl):PI X tg (.Call (.Name "range" p) [a] [] pos) (WZ ta):=by
 intro pins s σ H R I h;refine Call_ (VR I z hm boot_range<|PyProof.Rows.callWith_type1 (UC (ha pos pins s σ H _ I h) λus s1 O=>?_) hs rfl);obtain⟨vs,H1,I1,r1,q1⟩:=O;obtain⟨j,e,q1,J,q⟩:=q1;subst e
 cases r1 with
 |cons r S=>
  cases S;obtain⟨t,rfl⟩:=r;show call_range_1 (zKa I1 01 01 q1 J<|by simpa using q)
theorem zMl(O:Gl X "range")(hm:X.mg "range" = none)(ha:PA X [a,b] ta)(hs:starEach [a,b] X.env=[(false,eval a X.env),(false,eval b X.env)]:=by rfl)(J:starEach [b] X.env=[(false,eval b X.env)]:=by rfl):
  PI X tg (.Call (.Name "range" p) [a,b] [] pos) (XZ ta):=by
 intro pins s σ H R I h;refine Call_ (VR I O hm boot_range<|PyProof.Rows.callWith_type1 (UC (ha pos pins s σ H _ I h) λus s1 Z=>?_) (by rw[hs,J]) (by rw[J];rfl));obtain⟨vs,H1,I1,r1,q1⟩:=Z;obtain⟨i,j,e,⟨q1,S,U,Y⟩,q⟩:=q1;subst e
 cases r1 with
 |cons r z=>
  cases z with
  |cons r' z=>
   cases z;obtain⟨t,rfl⟩:=r;obtain⟨t',rfl⟩:=r';show call_range_2<|zKa I1 q1 S U Y q
def Jp(wi:TI)(g:TG)(tb:TS):TS:=λD σ H=>wi σ H λJ H1=>∃W:Nat->Nat->St->Hp->Prop,(∃m,W 0 m σ H1)/\∀i m σ H,W i m σ H ->
 (J.stop i H/\D.nx σ H)\/(J.go i H/\∃N:St->Hp->Prop,(∀uC H',N uC H'->∃m',m'<m/\W (i+1) m' uC H')/\∀x H',J.yld i H x H'->g x σ H' λrW H2=>tb { D with nx:=N,ct:=N,bk:=D.nx } rW H2)
noncomputable def Z5(fp:List Addr)(h:Heap):rE:=fp.filterMap λb=>(h.get? b).map λo=>(b,o)
theorem hX{h:Heap}(hb:b∈fp)(e:h.get? b>o):(b,o)∈Z5 fp h:=kB.mpr ⟨b,hb,by rw[e];rfl⟩
theorem zMm{h:Heap}{p:Addr×Obj}(hp:p∈Z5 fp h):p.1∈fp/\h.get? p.1>p.2:=by
 obtain⟨b,hb,e⟩:=kB.mp hp
 cases q:h.get? b with
 |none=>rw[q]at e;cases e
 |some o=>
  rw[q]at e;have e':(b,o)=p:=DB e;subst e';show⟨hb,q⟩
theorem Inv.pinned{s:Shared}(I:Inv X pins σ H s)(hf:∀b∈fp,SH X pins H b)(S:∀b∈fp,∃o,s.heap.get? b>o/\∀v,o.data≠.cell v):Inv X (pins++Z5 fp s.heap) σ H s:=
 I.pins_of λp hp=>(nA.mp hp).elim (λz=>I.pin p<|EA _ z) λz=>by
  obtain⟨hb,e⟩:=zMm z;obtain⟨j,J,O,_⟩:=hf p.1 hb;obtain⟨o,e',d⟩:=S p.1 hb;rw[e]at e';cases e';show⟨e,j,J,O,d⟩
theorem Inv.unpinned(I:Inv X (pins++pl) σ H s):Inv X pins σ H s:=I.pins_of λp hp=>I.pin p<|EA _<|BB _ hp
theorem zU7(hp:PassesOwn (model X.prog X.w) X.A X.env X.xe)(hc:X.calm=true)(hi:PI X tg iter wi)(hg:PG X tg g)(hb:aM X body tb)(hs:∀x,cC iter X.env x=pure x:=by intro _;rfl):PS X (.For tg iter body [] pos) (Jp wi g tb):=by
 intro pins s σ H D I h;refine wpAny_For (UC (hi pins s σ H _ I h) λv s1 h1=>UC h1 λaV s2 h2=>?_) hs;obtain⟨it,fp,tn,J,H2,e,I2,T,xI,f2,W,⟨m0,w0⟩,turn⟩:=h2;subst e
 -- Kc stays true of the iterator's objects through the loop
 have rK:∀{H':Hp},(∀b∈fp,H' b=none)->∀b∈fp,SH X pins H' b:=λhn b hb=>⟨hn b hb,(f2 b hb).2⟩
 refine codeAny_forLoop_any (λn s'=>∃i uC H',Inv X pins uC H' s'/\tn i s'.heap/\(∀b∈fp,H' b=none)/\W i n uC H') ?_ m0 ⟨0,σ,H2,I2,xI,λb hb=>(f2 b hb).1,w0⟩;rintro n s3 ⟨i,Y,H3,I3,VN,Wo,w3⟩;rcases turn i n Y H3 w3 with⟨stop,qn⟩|⟨go,N,hN,step⟩
 .refine wpAny_passesOwn hp (UC (T.done X rfl rfl rfl hc i pins s3 Y H3 X.xe I3 (rK Wo) VN stop) λr s4 zz=>?_);obtain⟨hr,I4⟩:=zz;subst hr;show wpAny_execs_nil ⟨Y,H3,I4,qn⟩
 .refine wpAny_passesOwn hp (UC (T.item X rfl rfl rfl hc i pins s3 Y H3 X.xe I3 (rK Wo) VN go) λr s4 zz=>?_);obtain⟨u,hr,h4⟩:=zz;subst hr;refine wpAny_passesOwn hp (UC h4 λ_ s5 zz=>?_);obtain⟨x,H5,I5,r5,y5,MK,CU⟩:=zz;have I5':=I5.pinned (rK CU)<|T.obj _ _ MK;refine wpAny_passesOwn hp (UC (hg _ s5 Y H5 x u _ I5' r5<|step x H5 y5) λ_ s6 zz=>?_);obtain⟨σ6,H6,I6,q6⟩:=zz;refine wpAny_passesOwn hp (UC (hb _ s6 σ6 H6 _ I6 q6) λf s7 S=>?_)
  have again:∀{O:St}{j:Hp},Inv X (pins++Z5 fp s5.heap) O j s7->N O j->∃m,m<n/\∃i uC H',Inv X pins uC H' s7/\tn i s7.heap/\(∀b∈fp,H' b=none)/\W i m uC H':=λ{O j} z U=>by
   obtain⟨m',hm,w7⟩:=hN O j U;refine⟨m',hm,i+1,O,j,z.unpinned,T.keep _ _ _ MK λb hb o e=>(z.pin (b,o)<|EA _<|EA _<|hX hb e).1,λb hb=>?_,w7⟩;obtain⟨o,e,d⟩:=T.obj _ _ MK b hb;show(z.pin (b,o)<|EA _<|EA _<|hX hb e).2.1
  cases f with
  |next=>obtain⟨O,j,z,U⟩:=S;show again z U
  |cont=>obtain⟨O,j,z,U⟩:=S;show again z U
  |brk=>obtain⟨O,j,z,S⟩:=S;show⟨O,j,z.unpinned,S⟩
  |ret v=>obtain⟨x7,O,j,z,r7,S⟩:=S;show⟨x7,O,j,z.unpinned,r7,S⟩
end
end L2
namespace L2
open PySem PySem.Spec PyProof.Rows
abbrev R2:=V->V->Hp->VK->Prop
def ZI(X:Cx)(f:Value->Value->Sem Value)(r:R2):Prop:=
 ∀(pins:rE)(s:Shared)(σ:St)(H:Hp)(x y:V)(v u:Value)(Q:VK),Inv X pins σ H s->yj x v->yj y u->r x y H Q ->
  wpAny (model X.prog X.w) X.A (f v u) (EP X pins σ Q) X.xe s
def Du(X:Cx)(f:Value->Sem Value)(r:V->Hp->VK->Prop):Prop:=
 ∀(pins:rE)(s:Shared)(σ:St)(H:Hp)(x:V)(v:Value)(Q:VK),Inv X pins σ H s->yj x v->r x H Q ->
  wpAny (model X.prog X.w) X.A (f v) (EP X pins σ Q) X.xe s
def BK(X:Cx)(f:Value)(r:List V->Hp->VK->Prop):Prop:=
 ∀(pins:rE)(s:Shared)(σ:St)(H:Hp)(xs:List V)(us:List Value)(Q:VK),Inv X pins σ H s->yK xs us->r xs H Q ->
  wpAny (model X.prog X.w) X.A (call f us) (EP X pins σ Q) X.xe s
def Dt(X:Cx)(r:V->Hp->(Bool->Hp->Prop)->Prop):Prop:=
 ∀(pins:rE)(s:Shared)(σ:St)(H:Hp)(x:V)(v:Value)(Q:Bool->Hp->Prop),Inv X pins σ H s->yj x v->r x H Q ->
  wpAny (model X.prog X.w) X.A (truthy v) (TP X pins σ Q) X.xe s
def tV(r:R2)(ta tb:TE):TE:=λσ H Q=>ta σ H λx H1=>tb σ H1 λy H2=>r x y H2 Q
def tUn(r:V->Hp->VK->Prop)(ta:TE):TE:=λσ H Q=>ta σ H λx H1=>r x H1 Q
def rI(C:Int->Int->Prop)(g:Int->Int->V):R2:=λx y H Q=>∃i j,x=.int i/\y=.int j/\C i j/\Q (g i j) H
def Zk(g:Int->Int->V):R2:=λx y H Q=>∃i j,x=.int i/\y=.int j/\Q (g i j) H
def rU(g:Int->V):V->Hp->VK->Prop:=λx H Q=>∃i,x=.int i/\Q (g i) H
section
variable {X:Cx}{a b c:Expr}{ta tb tc:TE}{pos:Pos}
theorem oU(ha:PE X a ta)(hb:PE X b tb){R:V->V->Hp->Prop}(I:Inv X pins σ H s)(h:ta σ H λx H1=>tb σ H1 λy H2=>R x y H2){Q:vD}{f:Value->Value->Sem Value}(hf:∀v u s2 x y H2,Inv X pins σ H2 s2->yj x v->yj y u->R x y H2->wpAny (model X.prog X.w) X.A (f v u) Q X.xe s2):
  wpAny (model X.prog X.w) X.A (eval a X.env) (λv z=>wpAny (model X.prog X.w) X.A (eval b X.env) (λu J=>wpAny (model X.prog X.w) X.A (f v u) Q X.xe J) X.xe z) X.xe s:=by
 refine UC (ha pins s σ H _ I h) λv s1 zz=>?_
 obtain⟨x,H1,I1,r1,q1⟩:=zz;refine UC (hb pins s1 σ H1 _ I1 q1) λu s2 zz=>?_
 obtain⟨y,H2,j,r2,O⟩:=zz;show hf v u s2 x y H2 j r1 r2 O
theorem zU8(z:ZI X (binaryOp op) r)(ha:PE X a ta)(hb:PE X b tb):PE X (.BinOp a op b pos) (tV r ta tb):=by
 intro pins s σ H Q I h;show wpAny_BinOp (oU ha hb I h λv u s2 x y H2 j J O q=>z pins s2 σ H2 x y v u Q j J O q)
theorem M1{r:V->Hp->VK->Prop}(j:Du X (unaryOp op) r)(ha:PE X a ta):PE X (.UnaryOp op a pos) (tUn r ta):=by
 intro pins s σ H Q I h;show UnaryOp_ (UC (ha pins s σ H _ I h) λv s1 ⟨x,H1,I1,r1,q1⟩=>j pins s1 σ H1 x v Q I1 r1 q1)
theorem Ip{f:Value->Value->Sem Value}{C:Int->Int->Prop}{g:Int->Int->Int}
  (rule:∀(i j:Int)(t u:Tok)(s:Shared)(Q:vD)(E:vD),C i j->Q (.int (g i j) s.toks) { s with toks:=s.toks+1 }->wpAny (model X.prog X.w) X.A (f (.int i t)<|.int j u) Q E s) :
  ZI X f (rI C λi j=>.int<|g i j):=by
 intro pins s σ H x y v u Q I z J h;obtain⟨i,j,rfl,rfl,hc,q⟩:=h;obtain⟨t,rfl⟩:=z;obtain⟨t',rfl⟩:=J;show rule i j t t' s _ _ hc ⟨.int<|g i j,H,I.tok _,⟨_,rfl⟩,q⟩
theorem Iq{f:Value->Value->Sem Value}{g:Int->Int->Int}
  (rule:∀(i j:Int)(t u:Tok)(s:Shared)(Q:vD)(E:vD),Q (.int (g i j) s.toks) { s with toks:=s.toks+1 }->wpAny (model X.prog X.w) X.A (f (.int i t)<|.int j u) Q E s) :
  ZI X f (Zk λi j=>.int<|g i j):=by
 intro pins s σ H x y v u Q I z J h;obtain⟨i,j,rfl,rfl,q⟩:=h;obtain⟨t,rfl⟩:=z;obtain⟨t',rfl⟩:=J;show rule i j t t' s _ _ ⟨.int<|g i j,H,I.tok _,⟨_,rfl⟩,q⟩
def Df(i j:Int):Prop:=0<j/\j<1073741824
def eU(i j:Int):Prop:=(-(2 ^ 64)<i/\i<2 ^ 64)\/(-(2 ^ 64)<j/\j<2 ^ 64)
theorem eU.ok(h:eU i j):IntMulOk i j:=by
 rcases h with⟨h1,h2⟩|⟨h1,h2⟩
 .show .of_left<|intBits_le_64 h1 h2
 .show .of_right<|intBits_le_64 h1 h2
theorem zU9:ZI X (binaryOp .Sub) (Zk λi j=>.int<|i-j):=Iq λ_ _ _ _ _ _ _ q=>sub_int q
theorem zVA:ZI X (binaryOp .Mult) (rI eU λi j=>.int<|i*j):=Ip λ_ _ _ _ _ _ _ hc q=>mul_int q hc.ok
theorem zSK:ZI X (binaryOp .FloorDiv) (rI Df λi j=>.int<|i/j):=Ip λi j _ _ _ _ _ hc q=>by
 have h1:(0:Int)<j:=hc.1;have h2:j<1073741824:=hc.2;show floordiv_int 01 (by rw[Int.fdiv_eq_ediv_of_nonneg i<|01];show q) (.inl<|PyProof.noPylong_small<|01)
theorem zVB:ZI X (binaryOp .Mod) (rI (λ_ j=>0<j) λi j=>.int<|i%j):=Ip λi j _ _ _ _ _ hc q=>by
 have h1:(0:Int)<j:=hc;show mod_int' 01 (by rw[Int.fmod_eq_emod_of_nonneg i<|01];show q)
theorem unI{f:Value->Sem Value}{g:Int->Int}
  (rule:∀(i:Int)(t:Tok)(s:Shared)(Q:vD)(E:vD),Q (.int (g i) s.toks) { s with toks:=s.toks+1 }->wpAny (model X.prog X.w) X.A (f<|.int i t) Q E s) :
  Du X f (rU λi=>.int<|g i):=by
 intro pins s σ H x v Q I j h;obtain⟨i,rfl,q⟩:=h;obtain⟨t,rfl⟩:=j;show rule i t s _ _ ⟨.int<|g i,H,I.tok _,⟨_,rfl⟩,q⟩
theorem zVC:Du X (unaryOp .USub) (rU λi=>.int (-i)):=unI λ_ _ _ _ _ q=>neg_int q
end
section
variable {X:Cx}{a b c:Expr}{ta tb tc:TE}{pos:Pos}
theorem WR(I:Inv X pins σ H s)(q:Q (.bl k) H)(e:k=k'):EP X pins σ Q (.bool k') s:=by
 subst e;show⟨.bl k,H,I,rfl,q⟩
theorem zVD:ZI X (compareOp .Is) (λx y H Q=>y=.non/\Q (.bl<|decide<|x=.non) H):=by
 intro pins s σ H x y v u Q I j z h;obtain⟨rfl,q⟩:=h;cases z;refine is_none_gen<|WR I q ?_
 cases x<;>first
  |(cases j;rfl)
  |(obtain⟨t,rfl⟩:=j;rfl)
theorem zx(b:Expr)(h:op≠.In:=by decide)(h2:op≠.NotIn:=by decide):behindInMarks op b=false:=by
 have j:(op==CmpOp.In)=false:=by cases op<;>first|rfl|show absurd rfl h
 have z:(op==CmpOp.NotIn)=false:=by cases op<;>first|rfl|show absurd rfl h2
 cases b<;>simp[behindInMarks,j,z]
theorem zMn(z:ZI X (compareOp op) r)(ha:PE X a ta)(hb:PE X b tb)(hm:behindInMarks op b=false):PE X (.Compare a [op] [b] pos) (tV r ta tb):=by
 intro pins s σ H Q I h;show wpAny_Compare1 (oU ha hb I h λv u s2 x y H2 j J O q=>z pins s2 σ H2 x y v u Q j J O q) hm
def S3(t:TE):TT:=λσ H Q=>t σ H λx H'=>∃k,x=.bl k/\Q k H'
theorem Qb(U:ZI X (compareOp op) r)(ha:PE X a ta)(hb:PE X b tb)(hm:behindInMarks op b=false):PT X (.Compare a [op] [b] pos) (S3<|tV r ta tb):=by
 intro pins s σ H Q I h
 refine wpAny_isTrue_Compare1 (UC (ha pins s σ H _ I h) λv s1 ⟨x,H1,I1,r1,q1⟩=>UC (hb pins s1 σ H1 _ I1 q1) λu s2 ⟨y,H2,J,r2,Y⟩=>
  UC (U pins s2 σ H2 x y v u _ J r1 r2 Y) λc s3 ⟨z,j,O,r3,k,e,Z⟩=>?_) hm
 subst e;cases r3;show wpAny_truthy_bool ⟨j,O,Z⟩
def KY(K:Fg)(x:V)(H:Hp)(k:Bool):Prop:=
 match x with
 |.non=>k=false
 |.bl b=>k=b
 |.int i=>k=(i != 0)
 |.str y=>y.length<=sizeLine/\k=((y.length:Int) != 0)
 |.byt y=>y.size<=sizeLine/\k=((y.size:Int) != 0)
 |.ref p=>(∃xs,MF K H p xs/\k = !xs.isEmpty)\/(∃xs,aI K H p xs/\k = !xs.isEmpty)\/∃kvs,H p>.dK kvs/\k = !kvs.isEmpty
 |_=>False
theorem zLi{κ:Type}{kvs:List (κ×V)}{vs:List (κ×Value)}(r:KV kvs vs):(!vs.isEmpty) = !kvs.isEmpty:=by
 cases r<;>rfl
theorem xp{xs:List V}{its:List Value}(r:yK xs its):(!its.toArray.isEmpty) = !xs.isEmpty:=by
 cases r<;>simp
theorem MV:(sizeLine:Nat)<2 ^ 63:=by rw[sizeLine_eq];decide
theorem zVE:Dt X (λx H Q=>∃k,KY X.K x H k/\Q k H):=by
 intro pins s σ H x v Q I J h;obtain⟨k,e,q⟩:=h;have S:=MV;have hs:sizeLine=16777216:=sizeLine_eq
 cases x with
 |non=>
  cases J;have e':k=false:=e;subst e'
  show truthy_none ⟨H,I,q⟩
 |bl b=>
  cases J;have e':k=b:=e;subst e'
  show wpAny_truthy_bool ⟨H,I,q⟩
 |int i=>
  obtain⟨t,rfl⟩:=J;have e':k=(i != 0):=e;subst e'
  show PySem.P.truthy_int ⟨H,I,q⟩
 |str y=>
  obtain⟨t,rfl⟩:=J;obtain⟨hy,e'⟩:y.length<=sizeLine/\k=((y.length:Int) != 0):=e;subst e'
  show PySem.P.truthy_str 01 ⟨H,I.tok _,q⟩
 |byt y=>
  obtain⟨t,rfl⟩:=J;obtain⟨hy,e'⟩:y.size<=sizeLine/\k=((y.size:Int) != 0):=e;subst e'
  show PySem.W.truthy_bytes 01 ⟨H,I.tok _,q⟩
 |ref p=>
  cases J;have e':(∃xs,MF X.K H p xs/\k = !xs.isEmpty)\/(∃xs,aI X.K H p xs/\k = !xs.isEmpty)\/∃kvs,H p>.dK kvs/\k = !kvs.isEmpty:=e;rcases e' with⟨xs,hx,e'⟩|⟨xs,hx,e'⟩|⟨kvs,hx,e'⟩
  .subst e';obtain⟨its,r,pl,hz⟩:=I.list hx;have j:=r.length;show wpAny_truthy_list pl.isList (by dsimp[sA];omega) ⟨H,I.tok _,by rw[xp r];show q⟩
  .subst e';obtain⟨its,r,pl,hz⟩:=I.tuple hx;have j:=r.length;show truthy_tuple pl (by dsimp[sA];omega) ⟨H,I.tok _,by rw[xp r];show q⟩
  .subst e';obtain⟨hz,O,vs,r,m⟩:kvs.length<=sizeLine/\(p==sysModules)=false/\∃vs,KV kvs vs/\s.heap.DictOf (z9 X.prog X.w) p vs:=I.hok p _ hx;have j:kvs.length=vs.length:=Paired.length r
   show wpAny_truthy_dict O m 01 ⟨H,I.tok _,by rw[zLi r];show q⟩
 |_=>show(show False from e).elim
theorem zPU(ha:PE X a ta)(he:∀j,isTrue a X.env j=(do let v <- j;standAt a.pos;holding [v] (truthy v))):
  PT X a (λσ H Q=>ta σ H λx H'=>∃k,KY X.K x H' k/\Q k H'):=by
 intro pins s σ H Q I h;show isTrue_plain (UC (ha pins s σ H _ I h) λv s1 ⟨x,H1,I1,r1,q1⟩=>zVE pins s1 σ H1 x v Q I1 r1 q1)<|he _
theorem zLj:ZI X (binaryOp .Add) (λx y H Q=>∃i j,x=.str i/\y=.str j/\i.length+j.length<=sizeLine/\Q (.str<|i++j) H):=by
 intro pins s σ H x y v u Q I z J h;obtain⟨i,j,rfl,rfl,hz,q⟩:=h;obtain⟨t,rfl⟩:=z;obtain⟨t',rfl⟩:=J;show add_str (λt' tk=>⟨.str<|i++j,H,I.tok _,⟨_,rfl⟩,q⟩) hz
theorem GN(r:yK [x] us):∃u,us=[u]/\yj x u:=by
 cases r with
 |cons r1 r2=>cases r2;show⟨_,rfl,r1⟩
theorem zVF(r:yK [x,y] us):∃u j,us=[u,j]/\yj x u/\yj y j:=by
 cases r with
 |cons r1 r2=>
  cases r2 with
  |cons r3 z=>cases z;show⟨_,_,rfl,r1,r3⟩
theorem zIL:BK X (.type "int") (λxs H Q=>(∃i,xs=[.int i]/\Q (.int i) H)\/∃k,xs=[.bl k]/\Q (.int<|if k then 1 else 0) H):=by
 intro pins s σ H xs us Q I r h;rcases h with⟨i,rfl,q⟩|⟨k,rfl,q⟩
 .obtain⟨u,rfl,t,rfl⟩:=GN r;show call_int_int ⟨.int i,H,I,⟨_,rfl⟩,q⟩
 .obtain⟨u,rfl,r1⟩:=GN r;cases r1;show call_int_bool ⟨.int<|if k then 1 else 0,H,I.tok _,⟨_,rfl⟩,q⟩
end
end L2
namespace L2
open PySem PySem.Spec PyProof.Rows
structure eW(h:Heap)(x dx C:Addr)(mA:gF):Prop where
 obj:h.get? x>ZC C dx
 ns:h.Ns1 dx mA
 ne:dx≠x
theorem zMo{h:Heap}{mA:gF}(n:h.Ns1 dx mA):∃j,h.get? dx>j/\∀name,MH name j>mA name:=by
 obtain⟨o,es,S,J,hd,hk,_,hm⟩:=n;refine⟨o,J,λname=>?_⟩;have e:=hm name;unfold nsFind findBy at e;rw[<- Array.find?_toList]at e;unfold MH;rw[hd];dsimp only;split
 .rename_i y q;rw[q]at e;show congrArg some e
 .rename_i q;rw[q]at e
  have a:es.toList.any (·.refKey)=false:=by
   rw[sJ];intro y hy;obtain⟨z,t,O⟩:=hk y<|Array.mem_toList_iff.mp hy;simp[DictEntry.refKey,O]
  have I:¬ es.toList.any (·.refKey)=true:=by rw[a];show cB
  rw[if_neg I];show congrArg some e
theorem eW.look{mA:gF}(I:eW h x dx C mA):∃j,PySem.W.InstAt h x (ZC C dx) C (some j)/\∀name,MH name j>mA name:=
 let ⟨j,ho,hl⟩:=zMo I.ns
 ⟨j,⟨I.obj,rfl,rfl,ho⟩,hl⟩
section
variable {prog:Program}{w:World}{A:Around}{E:vD}{s:Shared}{K:Fg}{x dx C f:Addr}{mA:gF}{name:Str}{v:Value}
theorem zSM{Q:vD}(X:K.In s.heap)(I:eW s.heap x dx C mA)(z:XE K C name=true)(hh:ZF K C=true)(ha:MB K (.ref C) name>none)(hv:mA name>v)(j:NO v=true)(h:Q v { s with toks:=s.toks+1 }):
  wpAny (model prog w) A (getAttr (.ref x) name expr) Q E s:=by
 obtain⟨S,J,O⟩:=I.look;show PySem.W.get_value X J (ZH z).1 (PySem.W.findObj_own hh ha rfl<|by rw[O,hv]) j h
theorem zPV{Q:Value×List Value->Shared->Prop}(X:K.In s.heap)(I:eW s.heap x dx C mA)(j:XE K C name=true)(hf:MB K (.ref C) name>(some<|.ref f))(O:MC K (.ref f)=true)(hv:mA name=none)(h:Q (.ref f,[.ref x]) s):
  wpAny (model prog w) A (getMethod (.ref x) name pl) Q E s:=by
 obtain⟨S,J,z⟩:=I.look;show PySem.W.method_fn X J (ZH j).1 (ZH j).2 hf (beq_iff_eq.mp O) (by change(MH name S).map (·.isSome)>false;rw[z,hv];rfl) h
theorem zSN{ns:List Str}{Q:Unit->Shared->Prop}(X:K.In s.heap)(I:eW s.heap x dx C mA)
  (hs:MB K (.ref C) "__setattr__" = some (some<|.builtin "object.__setattr__")) (hp:VI K C=true) (ht:OJ K C name>none) (hh:ZF K C=true)
  (hw:MM mA ns) (hsz:ns.length<=sizeLine)
  (h:∀h',eW h' x dx C (λy=>if y=name then some v else mA y)->cE dx s.heap h'->Q () { s with heap:=h',toks:=s.toks+2 }) :
  wpAny (model prog w) A (setAttr (.ref x) name v) Q E s:=by
 obtain⟨od,J,hl⟩:=I.look;refine PySem.W.set_plain X J hs (PySem.W.osa_open (s:={ s with toks:=s.toks+1 }) (r:=none) X J hp ht λb=>?_);obtain⟨cd,hc,wN⟩:=PySem.W.any_some hh;have hx:s.heap.get? x>⟨.ref C,some dx,.plain,#[]⟩:=I.obj;refine wpAny_bind<|wpAny_pure<|wpAny_bind<|wpAny_bind<|wpAny_loadPart hx<|wpAny_bind<|P7 (s:={ s with toks:=s.toks+1 }) (PySem.W.looks_clsIn X hc) ?_;rw[wN];refine wpAny_pure (a:=some dx)<|wpAny_bind<|wpAny_pure<|wpAny_bind ?_;refine wpAny_nsSet1 (s:={ s with toks:=s.toks+1 }) I.ns λh' U S=>?_
 obtain⟨oD,Z,Y,O,z,j⟩:=U.count<|Da name v hw;refine wpAny_bind (wpAny_lookBehind O (by rw[z];show pastItsLine_dict<|vA j (by rw[kA];omega)) ?_);show wpAny_pure<|h _ ⟨(S.2 _<|Ne.symm I.ne).trans I.obj,U,I.ne⟩ S
theorem zPW{R:jJ->Shared->Prop}(X:K.In s.heap)(hm:NJ K C=true)(hi:MB K (.ref C) "__init__" = some (some<|.ref f))(hf:PySem.W.typeIn K (.ref f)>.type "function") (h:xE (model prog w) (A.under<|.builtin "type.__call__" ⟨.ref C::vs,kw⟩) (.call (.ref f) ⟨.ref (s.heap.objs.size+1)::vs,kw⟩) (PySem.W.InitBack (s.heap.objs.size+1) R)
   { s with heap:=(s.heap.push nC).push (ZC C s.heap.objs.size) }) :
  xE (model prog w) A (.call (.ref C) ⟨vs,kw⟩) R s:=by
 obtain⟨hh,g,d,t,os⟩:=s;show PySem.W.make_core (PySem.W.makes_of X hm) (PySem.W.looks_findIn X hi) (λself=>PySem.W.bind_fn X self hf) (.inl rfl) h
end
noncomputable def OH(f:Str)(v:V):List (Str×V)->List (Str×V)
 | []=>[(f,v)]
 |(g,x)::r=>if g=f then (g,v)::r else (g,x)::OH f v r
theorem M4(f g:Str)(v:V):∀fs:List (Str×V),(OH f v fs).lookup g=if g=f then some v else fs.lookup g
 |[]=>by
  change fD g [(f,v)]=_;by_cases h:g=f
  .have hb:(g==f)=true:=beq_iff_eq.mpr h;dsimp[fD,hb,if_pos h]
  .have hb:(g==f)=false:=beq_eq_false_iff_ne.mpr h
   dsimp[fD,hb,if_neg h]
 |(k,x)::r=>by
  have ih:=M4 f g v r;rw[show OH f v ((k,x)::r)=(if k=f then (k,v)::r else (k,x)::OH f v r) from rfl];by_cases hk:k=f
  .rw[if_pos hk];by_cases h:g=k
   .have hb:(g==k)=true:=beq_iff_eq.mpr h;dsimp[fD,hb,if_pos<|h.trans hk]
   .have hb:(g==k)=false:=beq_eq_false_iff_ne.mpr h;dsimp[fD,hb,if_neg (λe:g=f=>h<|e.trans hk.symm)]
  .rw[if_neg hk];by_cases h:g=k
   .have hb:(g==k)=true:=beq_iff_eq.mpr h;dsimp[fD,hb,if_neg (λe:g=f=>hk<|h.symm.trans e)]
   .have hb:(g==k)=false:=beq_eq_false_iff_ne.mpr h;dsimp[fD,hb];show ih
theorem Nu(f:Str)(v:V):∀fs:List (Str×V),f∈(OH f v fs).map (·.1)/\∀g,g∈fs.map (·.1)->g∈(OH f v fs).map (·.1)
 | []=>⟨by simp[OH],λg h=>by simp at h⟩
 |(k,x)::r=>by
  obtain⟨j,i2⟩:=Nu f v r;rw[show OH f v ((k,x)::r)=(if k=f then (k,v)::r else (k,x)::OH f v r) from rfl];by_cases hk:k=f
  .rw[if_pos hk];subst hk;show⟨by simp,λg h=>‹h›⟩
  .rw[if_neg hk];refine⟨?_,λg h=>?_⟩
   .rw[eA];show bA _ j
   .rw[eA]at h ⊢;rcases lA.mp h with e|e
    .show lA.mpr<|.inl e
    .show bA _<|i2 g e
theorem Md(f:Str)(v:V):∀fs:List (Str×V),(OH f v fs).length<=fs.length+1
 | []=>by simp[OH]
 |(k,x)::r=>by
  have ih:=Md f v r;rw[show OH f v ((k,x)::r)=(if k=f then (k,v)::r else (k,x)::OH f v r) from rfl];by_cases hk:k=f
  .rw[if_pos hk,kA,kA];omega
  .rw[if_neg hk,kA,kA];omega
theorem CK.some_of(r:CK (some v) o):∃u,o>u/\yj v u:=by
 cases o with
 |none=>show(show False from r).elim
 |some u=>show⟨u,rfl,r⟩
theorem CK.none_of(r:CK none o):o=none:=by
 cases o with
 |none=>rfl
 |some u=>show(show False from r).elim
theorem zMp(r:yj v u):NO u=true:=by
 cases v with
 |non=>cases (show u=UF from r);rfl
 |bl b=>cases (show u=fF b from r);rfl
 |int i=>obtain⟨t,e⟩:=(show∃t,u=fI i t from r);cases e;rfl
 |str x=>obtain⟨t,e⟩:=(show∃t,u=PJ x t from r);cases e;rfl
 |byt b=>obtain⟨t,e⟩:=(show∃t,u=sY b t from r);cases e;rfl
 |flt b=>obtain⟨t,e⟩:=(show∃t,u=tY b t from r);cases e;rfl
 |ref a=>cases (show u=AB a from r);rfl
 |ty n=>cases (show u=bE n from r);rfl
section
variable {P:Program}{w:World}{H H':Hp}{h h':Heap}{a C dx:Addr}{fs fs':List (Str×V)}
theorem Qc(hok:HOk P w H h)(e:H a>.ins C dx fs):∃mA,eW h a dx C mA/\(∀f,CK (fs.lookup f)<|mA f)/\MM mA (fs.map (·.1))/\fs.length<=1000/\H dx>.own a:=by
 obtain⟨d,z,ne,ob,mA,n,r,q⟩:=(show BJ P w H h a (.ins C dx fs) from hok a _ e)
 show⟨mA,⟨ob,n,ne⟩,r,q,z,d⟩
end
structure xJ(K:Fg)(C:Addr):Prop where
 pg:XE K C DI=true
 hd:ZF K C=true
 po:VI K C=true
 sa:MB K (.ref C) "__setattr__" = some (some<|.builtin "object.__setattr__")
theorem xJ.get{K:Fg}{C:Addr}(c:xJ K C)(f:Str):XE K C f=true:=c.pg
def qR(K:Fg)(C:Addr)(f:Str):Prop:=MB K (.ref C) f>none
theorem qR.taker{K:Fg}{C:Addr}{f:Str}(n:qR K C f):OJ K C f>none:=by
 unfold OJ;rw[show MB K (.ref C) f>none from n];rfl
structure fW(K:Fg)(C:Addr)(m:Str)(f:Addr):Prop where
 at_:MB K (.ref C) m>(some<|.ref f)
 fn:MC K (.ref f)=true
 kp:pB K (.ref f)=true
section
variable {X:Cx}{pins:rE}{σ:St}{H:Hp}{s:Shared}{a C dx:Addr}{fs:List (Str×V)}{f:Str}{v:V}{A:Around}{E:vD}
theorem zLk{Q:vD}(I:Inv X pins σ H s)(e:H a>.ins C dx fs)(c:xJ X.K C)(n:qR X.K C f)(l:fs.lookup f>v)(h:∀u s',Inv X pins σ H s'->yj v u->Q u s'):wpAny (model X.prog X.w) A (getAttr (.ref a) f b) Q E s:=by
 obtain⟨mA,O,r,_,_,_⟩:=Qc I.hok e;obtain⟨u,z,j⟩:=CK.some_of (v:=v) (o:=mA f) (by rw[<- l];show r f);show zSM I.kIn O (c.get f) c.hd n z (zMp j)<|h u _ (I.tok _) j
theorem Mm{Q:Value×List Value->Shared->Prop}(I:Inv X pins σ H s)(e:H a>.ins C dx fs)(c:xJ X.K C)(k:fW X.K C m g)(l:fs.lookup m=none)(h:Q (.ref g,[.ref a]) s):wpAny (model X.prog X.w) A (getMethod (.ref a) m pl) Q E s:=by
 obtain⟨mA,O,r,_,_,_⟩:=Qc I.hok e;have j:mA m=none:=CK.none_of (by rw[<- l];show r m);show zPV I.kIn O (c.get m) k.at_ k.fn j h
theorem zLl{Q:Unit->Shared->Prop}(I:Inv X pins σ H s)(e:H a>.ins C dx fs)(c:xJ X.K C)(n:qR X.K C f)(hl:fs.length<1000)(Y:yj y u)(h:∀s',Inv X pins σ (upd H a<|.ins C dx<|OH f y fs) s'->Q () s'):wpAny (model X.prog X.w) A (setAttr (.ref a) f u) Q E s:=by
 obtain⟨mA,O,r,S,_,J⟩:=Qc I.hok e;have hz:(fs.map (·.1)).length<=sizeLine:=by rw[iA,sizeLine_eq];omega
 refine zSN I.kIn O c.sa c.po n.taker c.hd S hz λh' j Z=>h _ ?_
 have hd:∃o,h'.get? dx>o:=let ⟨o,_,_,e',_⟩:=j.ns;⟨o,e'⟩;refine I.write (x:=a) (e:=dx) (by rw[e];show True.intro) (.inr J) (λb q hb z=>(Z.2 b hb).trans z) hd ?_;refine⟨by rw[upd_ne O.ne];show J,?_,O.ne,j.obj,_,j.ns,λg=>?_,λg U=>?_⟩
 .have:=Md f y fs;omega
 .change CK ((OH f y fs).lookup g) (if g=f then some u else mA g);rw[M4];by_cases q:g=f
  .rw[if_pos q,if_pos q];show Y
  .rw[if_neg q,if_neg q];show r g
 .by_cases q:g=f
  .rw[q];show(Nu f y fs).1
  .refine(Nu f y fs).2 g (S g λz=>U ?_);change(if g=f then some u else mA g)=none;rw[if_neg q];show z
theorem Inv.made(I:Inv X pins σ H s):Inv X pins σ (upd (upd H s.heap.objs.size<|.own<|s.heap.objs.size+1) (s.heap.objs.size+1)<|.ins C s.heap.objs.size [])
  { s with heap:=(s.heap.push nC).push (ZC C s.heap.objs.size) }:=by
 have j:(s.heap.push nC).get? s.heap.objs.size>nC:=KA s.heap rfl
 have z:((s.heap.push nC).push<|ZC C s.heap.objs.size).get? (s.heap.objs.size+1)>ZC C s.heap.objs.size:=by
  have:=KA (s.heap.push nC) (o:=ZC C s.heap.objs.size) rfl
  rwa [OE]at this
 have e3:(s.heap.push nC).Ns s.heap.objs.size (λ_=>none):=⟨nC,#[],_,j,rfl,(λe he=>absurd he<|by simp),λ_=>rfl⟩
 have I1:=I.laid (a:=s.heap.objs.size) (o:=.own<|s.heap.objs.size+1) (h':=s.heap.push nC) (t':=s.toks) (λb u q=>oA _ q) (rA _) ⟨_,j⟩;refine I1.laid (a:=s.heap.objs.size+1) (o:=.ins C s.heap.objs.size []) (t':=s.toks) (λb u q=>oA _ q) (WE<|OE _ _) ?_;have ne:s.heap.objs.size≠s.heap.objs.size+1:=OA<|mH _;refine⟨by rw[upd_ne ne,zL],EB _,ne,z,λ_=>none,(Heap.Ns1.of_empty e3).at λo q=>oA _ q,λ_=>True.intro,λy hy=>absurd rfl hy⟩
theorem zSP{Q:vD}(hb:QF e f env (eval e env)=eval e env)(h:wpAny (model prog w) A (eval e env) (λo j=>wpAny (model prog w) A (getAttr o f true) Q E j) E s):wpAny (model prog w) A (eval (.Attribute e f pos) env) Q E s:=
 Attribute_any_ h (by rw[arm_eval_Attribute,hb])
end
def Jo(K:Fg)(ta:TE)(f:Str):TE:=λσ H Q=>ta σ H λx H1=>∃a C dx fs v,x=.ref a/\H1 a>.ins C dx fs/\xJ K C/\qR K C f/\fs.lookup f>v/\Q v H1
def Jc(K:Fg)(ta tv:TE)(f:Str):TS:=λD σ H=>tv σ H λy H1=>ta σ H1 λx H2=>∃a C dx fs,x=.ref a/\H2 a>.ins C dx fs/\xJ K C/\qR K C f/\fs.length<1000 /\
 D.nx σ (upd H2 a<|.ins C dx<|OH f y fs)
section
variable {X:Cx}{o e value:Expr}{f:Str}{pos pos' VE:Pos}{ta tv:TE}
theorem NV(he:PE X e ta)(hb:QF e f X.env (eval e X.env)=eval e X.env):PE X (.Attribute e f pos) (Jo X.K ta f):=by
 intro pins s σ H Q I h;refine zSP hb (UC (he pins s σ H _ I h) λu s1 zz=>?_);obtain⟨x,H1,I1,O,a,C,dx,fs,v,ex,z,c,n,l,q⟩:=zz;subst ex;obtain rfl:u=AB a:=O;show zLk I1 z c n l λS s2 j J=>⟨v,H1,j,J,q⟩
theorem Ra(ha:PE X o ta)(hv:PE X value tv)(hs:ZE value (some<|.Attribute o f pos') pos.line X.env=pure false):PS X (.Assign [.Attribute o f pos'] value pos) (Jc X.K ta tv f):=by
 intro pins s σ H D I h;refine plainObj_wpAny_Assign_Attribute (UC (hv pins s σ H _ I h) λu s1 j=>?_) hs;obtain⟨y,H1,I1,Z,q⟩:=j;refine UC (ha pins s1 σ H1 _ I1 q) λS s2 j=>?_
 obtain⟨x,H2,z,Y,a,C,dx,fs,ex,O,c,n,l,U⟩:=j;subst ex;obtain rfl:S=AB a:=Y;show zLl z O c n l Z λs3 J=>⟨σ,_,J,U⟩
theorem zSQ{apos:Pos}{Q:vD}(he:PE X e te)(I:Inv X pins σ H s) (h:te σ H λx H1=>∃a C dx fs g,x=.ref a/\H1 a>.ins C dx fs/\xJ X.K C/\fW X.K C m g/\fs.lookup m=none /\
   ∀s1,Inv X pins σ H1 s1->wpAny (model X.prog X.w) X.A (callWith pos (.ref g) [.ref a] (backTo pos<|starEach args X.env)<|backToKw pos<|keywordEach [] X.env) Q X.xe s1) (z:eval (.Call (.Attribute e m apos) args [] pos) X.env=(do
   let ov <- eval e X.env
   standAt apos.atName
   let (f,first) <- holding [ov] (getMethod ov m pl)
   callWith pos f first (backTo pos<|starEach args X.env) (backToKw pos<|keywordEach [] X.env))) :
  wpAny (model X.prog X.w) X.A (eval (.Call (.Attribute e m apos) args [] pos) X.env) Q X.xe s:=by
 refine sH (pl:=pl) (UC (he pins s σ H _ I h) λu s1 J=>?_) z;obtain⟨x,H1,I1,O,a,C,dx,fs,g,ex,j,c,k,l,q⟩:=J;subst ex;obtain rfl:u=AB a:=O;show Mm I1 j c k l<|q s1 I1
end
section
variable {X:Cx}{pins:rE}{σ:St}{H:Hp}{s:Shared}{A:Around}{E:vD}{Q:vD}{c:Value}{b:Bool}
end
end L2
namespace L2
open PySem PySem.Spec PyProof.Rows
structure IF(k:Nat)(A:Around):Prop where
 hd:A.handled=none
 dp:A.depth+3*k+5<Ue
 un:A.units+16*k+200<cLine
theorem IF.mono(r:IF k A)(h:j<=k):IF j A:=⟨r.hd,by have:=r.dp;omega,by have:=r.un;omega⟩
theorem IF.deeper{A:Around}(r:IF (k+1) A)(env:Env):IF k (A.deeper env):=
 ⟨r.hd,by have:=r.dp;change A.depth+1+3*k+5<_;omega,by have:=r.un;change A.units+3+16*k+200<_;omega⟩
theorem zLm{A:Around}:(A.under<|.builtin "type.__call__" ⟨.ref C::us,kw⟩).depth=A.depth+1:=by
 first|rfl|simp[Around.under,Code.weight,Code.isCreation,Code.isGuard,Code.isCaller,Code.frames,Code.isFrame,guardIds]
theorem zLn{A:Around}:(A.under<|.builtin "type.__call__" ⟨.ref C::us,kw⟩).units=A.units+1:=by
 first|rfl|simp[Around.under,Code.cUnits,Code.frames,Code.isFrame]
theorem IF.make{A:Around}(r:IF (k+1) A)(C:Addr)(us:List Value)(j:List (Str×Value)):IF k (A.under<|.builtin "type.__call__" ⟨.ref C::us,j⟩):=
 ⟨r.hd,by have:=r.dp;rw[zLm];omega,by have:=r.un;rw[zLn];omega⟩
theorem IF.depth{A:Around}(r:IF k A):A.depth<Ue:=by have:=r.dp;omega
theorem IF.units{A:Around}(r:IF k A):A.units+64<cLine:=by have:=r.un;omega
def FR:TA:=λ_ H Q=>Q [] H
def Su(ta:TE)(tr:TA):TA:=λσ H Q=>ta σ H λx H1=>tr σ H1 λxs H2=>Q (x::xs) H2
section
variable {X:Cx}{e:Expr}{es:List Expr}{te:TE}{t:TA}{pos:Pos}
theorem yk:PA X [] FR:=λ_ _ _ _ H Q I h=>hJ ⟨[],H,I,.nil,h⟩
theorem yA(ha:PE X e te)(hr:PA X es t)(hs:starEach (e::es) X.env=(false,eval e X.env)::starEach es X.env:=by rfl):PA X (e::es) (Su te t):=by
 intro pos pins s σ H Q I h;rw[hs];change wpAny _ _ (spliced ((false,eval e X.env)::backTo pos (starEach es X.env))) _ _ s;refine RF (UC (ha pins s σ H _ I h) λu s1 zz=>?_);obtain⟨x,H1,I1,r1,q1⟩:=zz;show UC (hr pos pins s1 σ H1 _ I1 q1) λus s2 ⟨xs,H2,j,r2,z⟩=>⟨x::xs,H2,j,.cons r1 r2,z⟩
def Jy(t:TA):TE:=λσ H Q=>t σ H λxs H1=>xs.length<=sizeLine/\∀p,H1 p=none->Q (.ref p) (upd H1 p<|.tup xs)
def Js(t:TA):TE:=λσ H Q=>t σ H λxs H1=>xs.length<=sizeLine/\∀p,H1 p=none->Q (.ref p) (upd H1 p<|.lst xs)
theorem zVG{x1}(h:PA X es t):PE X (.Tuple es x1 pos) (Jy t):=by
 intro pins s σ H Q I hq;refine wpAny_Tuple_spliced (UC (h pos pins s σ H _ I hq) λus s1 ⟨xs,H1,I1,r,z,q⟩=>⟨by rw[<- r.length];show z,?_⟩);have hf:H1 s1.heap.objs.size=none:=I1.hok.fresh<|rA _;refine⟨.ref s1.heap.objs.size,upd H1 s1.heap.objs.size<|.tup xs,I1.laid (t':=s1.toks) (λb u e=>oA _ e) (rA _) ?_,rfl,q _ hf⟩;show⟨z,us,r,⟨_,KA _ rfl,rfl,_,rfl,rfl⟩⟩
theorem Rb(h:PA X es t):PE X (.List es pos) (Js t):=by
 intro pins s σ H Q I hq;refine wpAny_List_spliced (UC (h pos pins s σ H _ I hq) λus s1 ⟨xs,H1,I1,r,z,q⟩=>⟨by rw[<- r.length];show z,?_⟩);have hf:H1 s1.heap.objs.size=none:=I1.hok.fresh<|rA _;refine⟨.ref s1.heap.objs.size,upd H1 s1.heap.objs.size<|.lst xs,I1.laid (t':=s1.toks) (λb u e=>oA _ e) (rA _) ?_,rfl,q _ hf⟩;show⟨z,us,0,r,KA _ rfl⟩
end
abbrev Sp:=List V->Hp->VK->XK->Prop
abbrev wQ:=List Env->Hp->Shared->XK->Value->Shared->Prop
structure gW(P:Program)(w:World)(K:Fg)(mg:gF)(base:Heap)(A:Around)(outer:List Env)(s:Shared)(H:Hp):Prop where
 frames:A.frames>outer
 mod:Mod K mg base
 bs:∀b o,base.get? b>o->s.heap.get? b>o/\H b=none
 bsz:base.objs.size<=s.heap.objs.size
 funs:s.heap.FunFrames base outer
 frf:∀b∈BH outer,H b=none
 hok:HOk P w H s.heap
 bare:wG s.gens
def CE(outer:List Env)(P:Program)(w:World)(H:Hp)(s:Shared)(Q:VK)(u:Value)(s':Shared):Prop:=
 ∃v H',s'.os=s.os/\wG s'.gens/\Un (BH outer) [] H H' s.heap s'.heap/\HOk P w H' s'.heap/\yj v u/\Q v H'
def CR(CX:wQ)(outer:List Env)(P:Program)(w:World)(H:Hp)(s:Shared)(Q:VK)(E:XK)(r:jJ)(s':Shared):Prop:=
 match r with
 |.ok (.ret u)=>CE outer P w H s Q u s'
 |.ok _=>False
 |.error e=>CX outer H s E e s'
structure KI(P:Program)(w:World)(K:Fg)(mg:gF)(base:Heap)(CX:wQ)(k:Nat)(f:Addr)(fd:FuncData)(ps:List Str)(sp:Sp):Prop where
 len:∀vs H Q E,sp vs H Q E->vs.length=ps.length
 run:∀(A:Around)(outer:List Env)(s:Shared)(H:Hp)(args:Args)(us:List Value)(vs:List V)(Q:VK)(E:XK),IF k A->gW P w K mg base A outer s H->dN s fd args (ps.zip us)->yK vs us->sp vs H Q E ->
  xE (model P w) A (.call (.ref f) args) (CR CX outer P w H s Q E) s
theorem gW.make{P:Program}{w:World}{K:Fg}{mg:gF}{base:Heap}{A:Around}{outer:List Env}{s:Shared}{H:Hp}(e:gW P w K mg base A outer s H)(C:Addr)(us:List Value)(j:List (Str×Value)):
  gW P w K mg base (A.under<|.builtin "type.__call__" ⟨.ref C::us,j⟩) outer s H:=⟨by first|show e.frames|(simpa[Around.under,Code.envs,Code.isFrame,pushEnvs] using e.frames),e.mod,e.bs,e.bsz,e.funs,e.frf,e.hok,e.bare⟩
section
variable {X:Cx}{pins:rE}{σ:St}{H:Hp}{s s':Shared}
theorem Inv.env0(I:Inv X pins σ H s):gW X.prog X.w X.K X.mg X.base X.A X.stack s H:=
 ⟨I.ok.frames,I.ok.mod,I.bs,vA I.ok.bsz I.sz,I.stack,I.stkFree,I.hok,I.bare⟩
theorem Inv.after(I:Inv X pins σ H s)(h:CE X.stack X.prog X.w H s Q u s'):EP X pins σ Q u s':=by
 obtain⟨v,H',os,bare,un,hok,r,q⟩:=h;obtain⟨hh,g,d,t,j⟩:=s';obtain rfl:j=s.os:=os;show⟨v,H',I.call (h':=hh) (g':=g) (d':=d) (t':=t) (ch:=[]) un hok bare (λb z=>absurd z<|by simp),r,q⟩
end
def E3(sp:Sp)(dvs:List V)(E:XK)(t:TA):TE:=λσ H Q=>t σ H λvs H1=>sp (vs++dvs) H1 Q E
def zVH(C:Addr)(m:Str)(sp:Sp)(dvs:List V)(E:XK)(ta:TE)(t:TA):TE:=λσ H Q=>ta σ H λx H1=>∃a dx fs,x=.ref a/\H1 a>.ins C dx fs/\fs.lookup m=none /\
 t σ H1 λvs H2=>sp (x::(vs++dvs)) H2 Q E
def OL(K:Fg)(fd:FuncData)(ps:List Str)(ds:List Value):Prop:=
 ∀(s:Shared)(us:List Value),K.In s.heap->(us++ds).length=ps.length->dN s fd ⟨us,[]⟩ (ps.zip<|us++ds)
theorem OL.all{K:Fg}{fd:FuncData}{ps:List Str}(h:∀us:List Value,us.length=ps.length->bindArgs fd ⟨us,[]⟩=pure (ps.zip us)):OL K fd ps []:=λs us _ j=>by
 rw[oB]at j ⊢;show .of_eq<|h us j
def vO(CX:wQ)(X:Cx)(E:XK):Prop:=∀(pins:rE)(σ:St)(H:Hp)(s:Shared)(e:Value)(s':Shared),Inv X pins σ H s->CX X.stack H s E e s'->X.xe e s'
section
variable {X:Cx}{CX:wQ}{k:Nat}{f C:Addr}{fd:FuncData}{ps:List Str}{sp:Sp}{dvs:List V}{ds:List Value}{E:XK}{x m:Str}{p pos apos:Pos}{e o:Expr}{es:List Expr}{ta:TE}{t:TA}
theorem Re(F:KI X.prog X.w X.K X.mg X.base CX k f fd ps sp)(hr:IF k X.A)(hb:OL X.K fd ps ds)(hd:yK dvs ds)(hx:vO CX X E)(I:Inv X pins σ H s)(r:yK vs us)(h:sp (vs++dvs) H Q E):wpAny (model X.prog X.w) X.A (call (.ref f) us) (EP X pins σ Q) X.xe s:=by
 have r2:yK (vs++dvs) (us++ds):=r.append hd;have j:(us++ds).length=ps.length:=by rw[<- r2.length];show F.len _ _ _ _ h
 refine wpAny_call (codeAny_mono (F.run X.A X.stack s H ⟨us,[]⟩ (us++ds) (vs++dvs) Q E hr I.env0 (hb s us I.kIn j) r2 h) λr s' hq=>?_)
 cases r with
 |error e=>show hx pins σ H s e s' I hq
 |ok fl=>
  cases fl with
  |ret u=>show I.after hq
  |next=>show False.elim hq
  |brk=>show False.elim hq
  |cont=>show False.elim hq
theorem Ay(F:KI X.prog X.w X.K X.mg X.base CX k f fd ps sp)(hr:IF k X.A)(J:Gl X x)(hm:X.mg x>.ref f)(hk:pB X.K (.ref f)=true)(hb:OL X.K fd ps ds)(hd:yK dvs ds)(hx:vO CX X E)
  (ha:PA X (e::es) t) (z:(x==("__debug__" : Str))=false:=by decide) (he:starEach (e::es) X.env=(false,eval e X.env)::starEach es X.env:=by rfl) (j:(backTo pos<|starEach es X.env).any (·.1)=false:=by rfl) :
  PE X (.Call (.Name x p) (e::es) [] pos) (E3 sp dvs E t):=by
 intro pins s σ H Q I h;refine wpAny_Call_Name_kw<|Ax I J hm ?_ z;refine vI (h₀:=X.base) I.ok.mod.kin hk (UC (ha pos pins s σ H _ I h) λus s1 ⟨vs,H1,I1,r,q⟩=>⟨I1.kIn,?_⟩) he j;show Re F hr hb hd hx I1 r q
theorem Qd(he:PE X o ta)(c:xJ X.K C)(hm:fW X.K C m f)(F:KI X.prog X.w X.K X.mg X.base CX k f fd ps sp)(hr:IF k X.A)(hb:OL X.K fd ps ds)(hd:yK dvs ds)(hx:vO CX X E)(ha:PA X (e::es) t)(S:starEach (e::es) X.env=(false,eval e X.env)::starEach es X.env:=by rfl)(z:(backTo pos<|starEach es X.env).any (·.1)=false:=by rfl) (O:eval (.Call (.Attribute o m apos) (e::es) [] pos) X.env=(do
   let ov <- eval o X.env
   standAt apos.atName
   let (f,first) <- holding [ov] (getMethod ov m pl)
   callWith pos f first (backTo pos<|starEach (e::es) X.env) (backToKw pos<|keywordEach [] X.env)):=by rfl) :
  PE X (.Call (.Attribute o m apos) (e::es) [] pos) (zVH C m sp dvs E ta t):=by
 intro pins s σ H Q I h;refine sH (pl:=pl) (UC (he pins s σ H _ I h) λu s1 Y=>?_) O;obtain⟨x,H1,I1,Z,a,dx,fs,ex,J,l,q⟩:=Y;subst ex;obtain rfl:u=AB a:=Z;refine Mm I1 J c hm l ?_;refine vI (first:=[.ref a]) (h₀:=X.base) I.ok.mod.kin hm.kp (UC (ha pos pins s1 σ H1 _ I1 q) λus s2 ⟨vs,H2,j,r,U⟩=>⟨j.kIn,?_⟩) S z;show Re (us:=.ref a::us) (vs:=.ref a::vs) F hr hb hd hx j (.cons rfl r) U
theorem zPX(he:PE X o ta)(c:xJ X.K C)(hm:fW X.K C m f)(F:KI X.prog X.w X.K X.mg X.base CX k f fd ps sp)(hr:IF k X.A)(hb:OL X.K fd ps ds)(hd:yK dvs ds)(hx:vO CX X E) (z:eval (.Call (.Attribute o m apos) [] [] pos) X.env=(do
   let ov <- eval o X.env
   standAt apos.atName
   let (f,first) <- holding [ov] (getMethod ov m pl)
   callWith pos f first (backTo pos<|starEach [] X.env) (backToKw pos<|keywordEach [] X.env)):=by rfl) :
  PE X (.Call (.Attribute o m apos) [] [] pos) (zVH C m sp dvs E ta FR):=by
 intro pins s σ H Q I h;refine sH (pl:=pl) (UC (he pins s σ H _ I h) λu s1 J=>?_) z;obtain⟨x,H1,I1,O,a,dx,fs,ex,j,l,q⟩:=J;subst ex;obtain rfl:u=AB a:=O;refine Mm I1 j c hm l ?_;show PySem.W.callWith_K0 (first:=[.ref a]) I1.kIn hm.kp<|Re (us:=[.ref a]) (vs:=[.ref a]) F hr hb hd hx I1 (.cons rfl .nil) q
structure Mk(K:Fg)(C f:Addr):Prop where
 makes:NJ K C=true
 init:MB K (.ref C) "__init__" = some (some<|.ref f)
 fn:MC K (.ref f)=true
 kp:pB K (.ref C)=true
end
section
variable {X:Cx}{CX:wQ}{k:Nat}{f C:Addr}{fd:FuncData}{ps ks:List Str}{sp:Sp}{E:XK}{x m:Str}{p pos apos jbc:Pos}{e o:Expr}{es:List Expr}{kws:List UK}{te ta:TE}{t tk:TA}{nm:Option Str}
variable {g:List Value->List Value->List Value}{gV:List V->List V->List V}
end
structure zU(N P:List Str)(sc:EF):Prop where
 kind:sc.kind=.function
 co:sc.isCoroutine=false
 gen:sc.isGenerator=false
 nd:N.Nodup
 pre:N.take P.length=P
 par:∀x∈P,sc.names.lookup x>.local\/sc.names.lookup x>.cell
 nofree:∀y∈sc.names,y.2≠.free
theorem zIM{kindOf:Str->Option NameKind}:∀{binds:List (Str×Value)}{m:gF},(∀v,(x,v)∉binds)->bindL kindOf binds m x=m x
 | [],_,_=>rfl
 |(n,v)::r,m,h=>by
  unfold bindL;rw[zIM λw j=>h w<|bA _ j];split
  .have:x≠n:=by rintro rfl;show h v gA
   simp[this]
  .rfl
theorem zIN{kindOf:Str->Option NameKind}:∀{binds:List (Str×Value)}{m:gF},(∀v,(x,v)∉binds)->bindC kindOf binds m x=m x
 | [],_,_=>rfl
 |(n,v)::r,m,h=>by
  unfold bindC;rw[zIN λw j=>h w<|bA _ j];split
  .rfl
  .have:x≠n:=by rintro rfl;show h v gA
   simp[this]
theorem zIO{kindOf:Str->Option NameKind}:∀{P:List Str}{vs:List Value}{i:Nat}{m:gF},P.Nodup->P[i]?>x->vs[i]?>v->kindOf x>.local ->
  bindL kindOf (P.zip vs) m x>v
 | [],_,_,_,_,h,_,_=>by simp at h
 |_::_,[],_,_,_,_,h,_=>by simp at h
 |p::P,w::vs,0,m,nd,h1,h2,hk=>by
  simp at h1 h2;subst h1;subst h2;change bindL kindOf ((p,w)::P.zip vs) m p=_;unfold bindL;rw[zIM λv hv=>(OB.mp nd).1 (FK hv).1,if_pos hk]
  simp
 |p::P,w::vs,i+1,m,nd,h1,h2,hk=>by
  change bindL kindOf ((p,w)::P.zip vs) m x=_;unfold bindL;show zIO (i:=i) (OB.mp nd).2 ‹h1› ‹h2› hk
theorem zIP{kindOf:Str->Option NameKind}:∀{P:List Str}{vs:List Value}{i:Nat}{m:gF},P.Nodup->P[i]?>x->vs[i]?>v->kindOf x≠some .local ->
  bindC kindOf (P.zip vs) m x>v
 | [],_,_,_,_,h,_,_=>by simp at h
 |_::_,[],_,_,_,_,h,_=>by simp at h
 |p::P,w::vs,0,m,nd,h1,h2,hk=>by
  simp at h1 h2;subst h1;subst h2;change bindC kindOf ((p,w)::P.zip vs) m p=_;unfold bindC;rw[zIN λv hv=>(OB.mp nd).1 (FK hv).1,if_neg hk]
  simp
 |p::P,w::vs,i+1,m,nd,h1,h2,hk=>by
  change bindC kindOf ((p,w)::P.zip vs) m x=_;unfold bindC;show zIP (i:=i) (OB.mp nd).2 ‹h1› ‹h2› hk
noncomputable def fM(N:List Str)(vs:List V):St:=vs.map some++pA (N.length-vs.length) none
noncomputable def QL(CX:wQ)(P:Program)(w:World)(K:Fg)(mg:gF)(base:Heap)(N:List Str)(qual:Str)(scope:EF)(f:Addr)(cd:Value)(A:Around)(outer:List Env)(s:Shared)(H:Hp)(E:XK):Cx where
 prog:=P
 w:=w
 K:=K
 mg:=mg
 base:=base
 A:=A.deeper<|envOfC qual scope s.heap.objs.size f cd
 N:=N
 s₀:=s
 H₀:=H
 env:=envOfC qual scope s.heap.objs.size f cd
 outer:=outer
 stack:=envOfC qual scope s.heap.objs.size f cd::outer
 ex:=[]
 calm:=true
 fn:=λ_=>true
 pn:=[]
 xe:=λe s'=>wpAny (model P w) (A.deeper<|envOfC qual scope s.heap.objs.size f cd) (leaving (envOfC qual scope s.heap.objs.size f cd) e) (λ_ CQ=>CX outer H s E e CQ) (λe' CQ=>CX outer H s E e' CQ) s'
theorem zKb{j:EF}(h:j.names.lookup x>.cell):∃c,(cellsFrom n j.names []).lookup x>c:=by
 have q:=WL j.names n []<|.inl h;show Option.isSome_iff_exists.mp q
theorem zMt{CX:wQ}{P:Program}{w:World}{K:Fg}{mg:gF}{base:Heap}{N ps:List Str}{qual:Str}{scope:EF}{f:Addr}{cd:Value}{A:Around}{outer:List Env}{s s1:Shared}{H:Hp}{E:XK}{us:List Value}{vs:List V}
  (S:zU N ps scope) (hd:A.handled=none) (j:gW P w K mg base A outer s H) (Z:vs.length=ps.length) (r:yK vs us)
  (x:InCallC s s.heap.objs.size (bindL (envOfC qual scope s.heap.objs.size f cd).kindOf (ps.zip us) λ_=>none) (cellsFrom (s.heap.objs.size+1) scope.names []) (bindC (envOfC qual scope s.heap.objs.size f cd).kindOf (ps.zip us) λ_=>none) s1) :
  Inv (QL CX P w K mg base N qual scope f cd A outer s H E) [] (fM N vs) H s1:=by
 have U:ps.length<=N.length:=by have:=congrArg HE S.pre;rw[eK]at this;omega
 obtain⟨h1,tk,rfl,hk⟩:=x.done;have Y0:∀b:Addr,b∉(QL CX P w K mg base N qual scope f cd A outer s H E).ex:=λb z=>absurd (show b∈([]:List Addr) from z) (by simp)
 refine⟨⟨j.mod,S.kind,rfl,rfl,rA _,λy z c h1 h2=>?_,λy hy=>?_,λy c _ h=>?_,λ_=>hd,Around.frames_deeper j.frames,.inr ⟨rfl,rfl⟩,λb z=>absurd z<|Y0 b,j.bs,j.bsz,λb _ _=>Y0 b,λb z=>absurd z<|Y0 b,j.funs,j.frf⟩,
  rfl,j.bare,Un.kept hk,⟨_,x.toInCall.ns,λi y v h1 h2 h3=>?_⟩,λy c h=>⟨_,x.cell y c h⟩,j.hok.fresh<|rA _,λy c h=>?_,λp hp=>absurd (show p∈([]:rE) from hp) (by simp),j.hok.kept hk,?_⟩
 .show name_of_addr x.apart (sC h1)<|sC h2
 .have hy:scope.names.lookup y>.cell\/scope.names.lookup y>.free:=hy;rcases hy with hy|hy
  .show zKb hy
  .show absurd rfl<|S.nofree _<|sC hy
 .show kE<|x.above y c<|sC h
 .have hi:i<vs.length:=by
   unfold fM at h2;by_cases hi:i<vs.length
   .show hi
   .rw[mB<|by simpa using hi]at h2;rw[HB]at h2;split at h2<;>cases h2
  have ha:vs[i]?>v:=by
   unfold fM at h2;rw[XA ‹hi›,CA]at h2
   cases e:vs[i]? with
   |none=>rw[e]at h2;cases h2
   |some a=>rw[e]at h2;cases h2;rfl
  obtain⟨u,J,O⟩:=r.get ha
  have hp:ps[i]?>y:=by
   rw[<- S.pre,List.getElem?_take_of_lt<|01];show h1
  have I:ps.Nodup:=by rw[<- S.pre];show S.nd.sublist<|tQ _ _
  refine⟨u,O,?_⟩;rcases S.par y (xA hp) with k|k
  .show .inl ⟨k,zIO I hp J k⟩
  .obtain⟨c,e⟩:=zKb (n:=s.heap.objs.size+1) k;refine .inr ⟨.inl k,c,e,?_⟩;have q:=x.cell y c e;rw[zIP I hp J (by change scope.names.lookup y≠_;rw[k];decide)]at q;show q
 .show j.hok.fresh<|kE<|x.above y c<|sC h
 .unfold fM;change _=N.length;rw[IA,iA,RH];omega
theorem Cb{K:Fg}{mg:gF}{k:Nat}{f:Addr}{name qual:Str}{body:List Stmt}{dV kV z pm j ct oc:Value}{an od:Option Addr}{RP:Array (Option Value)}{N ps:List Str}(lk:K.lookup f>⟨oc,od,.func<|FD name qual params body scope dV kV z pm an j ct,RP⟩)(uM:KF K j qual=true)(S:zU N ps scope)(len:∀vs H Q E,sp vs H Q E->vs.length=ps.length) (gE:∀(A:Around)(outer:List Env)(s:Shared)(H:Hp)(vs:List V)(Q:VK)(E:XK),IF k (A.deeper<|envOfC qual scope s.heap.objs.size f j)->sp vs H Q E ->
   ∃t,aM (QL CX P w K mg base N qual scope f j A outer s H E) body t/\t { nx:=λ_ H'=>Q .non H',rt:=Q } (fM N vs) H) :
  KI P w K mg base CX (k+1) f (FD name qual params body scope dV kV z pm an j ct) ps sp:=by
 refine⟨len,λA outer s H args us vs Q E hr O hb r JS=>?_⟩;have hl:=len _ _ _ _ JS;have KX:K.In s.heap:=O.mod.kin.keeps λb o e=>(O.bs b o e).1
 have Y:s.heap.NoLimit:=O.mod.nolimit.keeps λb o e=>(O.bs b o e).1
 have NZ:∀y∈ps.zip us,scope.names.lookup y.1>.local\/(scope.names.lookup y.1>.cell/\((cellsFrom (s.heap.objs.size+1) scope.names []).lookup y.1).isSome=true):=by
  rintro⟨n,v⟩ hy;rcases S.par n (FK hy).1 with q|q
  .show .inl q
  .show .inr ⟨q,WL _ _ _<|.inl q⟩
 refine codeAny_call_function hr.depth (KX _ _ lk) rfl S.co S.gen rfl (PySem.W.codeRec_of KX uM)<|hb _ _ _ _ ?_;refine wpAny_newFunctionEnv_cells S.kind NZ λenv he s1 x=>?_
 subst he;refine⟨Y.keeps x.toInCall.keep,codeAny_func ?_⟩;obtain⟨t,ht,hq⟩:=gE A outer s H vs Q E (hr.deeper _) JS;have I:Inv (QL CX P w K mg base N qual scope f j A outer s H E) [] (fM N vs) H s1:=zMt S hr.hd O hl r x;refine wpAny_mono (ht [] s1 (fM N vs) H _ I hq) (λfl s' hs=>?_) λe s' hs=>hs
 have fin:∀{U:St}{H':Hp}{v:V}{u:Value},Inv (QL CX P w K mg base N qual scope f j A outer s H E) [] U H' s'->yj v u->Q v H'->CE outer P w H s Q u s':=
  λ{U H' v u} J Z q=>⟨v,H',J.os,J.bare,J.base,J.hok,Z,q⟩
 cases fl with
 |ret u=>
  obtain⟨v,U,H',J,Z,q⟩:=hs
  show fin J Z q
 |next=>
  obtain⟨U,H',J,q⟩:=hs
  show fin (v:=V.non) (u:=UF) J rfl q
 |brk=>
  obtain⟨_,_,_,q⟩:=hs
  show False.elim q
 |cont=>
  obtain⟨_,_,_,q⟩:=hs;show False.elim q
end L2
namespace L2
open PySem PySem.Spec PyProof.Rows
section
variable {X:Cx}{x:Str}{p pos:Pos}{e:Expr}{es:List Expr}{t:TA}{id T:String}{r:List V->Hp->VK->Prop}
def U8(r:List V->Hp->VK->Prop)(t:TA):TE:=λσ H Q=>t σ H λvs H1=>r vs H1 Q
theorem j5(hc:BK X (.builtin id) r)(O:Gl X x)(hm:X.mg x=none)(hv:LB x>.builtin id)(ha:PA X (e::es) t)(S:x ≠ "__name__":=by decide)(J:(x==("__debug__" : Str))=false:=by decide)
  (he:starEach (e::es) X.env=(false,eval e X.env)::starEach es X.env:=by rfl) (z:(backTo pos<|starEach es X.env).any (·.1)=false:=by rfl):PE X (.Call (.Name x p) (e::es) [] pos) (U8 r t):=by
 intro pins s σ H Q I h;refine wpAny_Call_Name_kw<|VR I O hm hv ?_ S J;show PyProof.Rows.callWith_builtin1 (UC (ha pos pins s σ H _ I h) λus s1 ⟨vs,H1,I1,r1,q1⟩=>hc pins s1 σ H1 vs us Q I1 r1 q1) he z
theorem W9(hc:BK X (.type T) r)(J:Gl X x)(hm:X.mg x=none)(hv:LB x>.type T)(ha:PA X (e::es) t)(O:x ≠ "__name__":=by decide)(z:(x==("__debug__" : Str))=false:=by decide)
  (he:starEach (e::es) X.env=(false,eval e X.env)::starEach es X.env:=by rfl) (j:(backTo pos<|starEach es X.env).any (·.1)=false:=by rfl):PE X (.Call (.Name x p) (e::es) [] pos) (U8 r t):=by
 intro pins s σ H Q I h;refine wpAny_Call_Name_kw<|VR I J hm hv ?_ O z;show PyProof.Rows.callWith_type1 (UC (ha pos pins s σ H _ I h) λus s1 ⟨vs,H1,I1,r1,q1⟩=>hc pins s1 σ H1 vs us Q I1 r1 q1) he j
end
end L2
namespace HT
open PySem PyProof.Rows
section
open PySem.SeqAt
open PySem.AutoSeq1 (wpAny_loadPart')
open PySem.MeetsSeq PySem.MeetsSeq2 PySem.MeetsSeq3
end
section
variable {prog:Program}{w:World}{A:Around}{E:vD}{s:Shared}
theorem zST{vs ws:List Value}{Q:vD}(ht:mP s.heap t vs.toArray)(hb:mP s.heap b ws.toArray)(hv:vs≠[])(h1:ws=[]->Q (.ref t) s)(h2:ws≠[]->Q (.ref s.heap.objs.size) { s with heap:=s.heap.push { cls:=.type "tuple",data:=.seq (vs++ws).toArray } })(hsz:vs.length+ws.length<=sizeLine):wpAny (model prog w) A (binaryOp .Add (.ref t)<|.ref b) Q E s:=by
 obtain⟨⟨cls,dd,data,Z⟩,I,hc,n,hd⟩:=id ht;obtain⟨⟨UY,S,data2,U⟩,z,O,Y,j⟩:=id hb;simp only at hc hd O j;subst hc hd O j;have e:vs.toArray++ws.toArray=(vs++ws).toArray:=by simp
 by_cases J:ws=[]
 .show cL ⟨_,I,rfl⟩ ⟨_,z,rfl⟩ ZL OO YG BG (lG _ _)
   (tuple_addW1 t b vs.toArray ws.toArray n Y dd S Z U ‹hv›<|by simp[J]) ⟨I,z,h1 J⟩
 .refine cL ⟨_,I,rfl⟩ ⟨_,z,rfl⟩ ZL OO YG BG (lG _ _)
   (tuple_addW2 t b vs.toArray ws.toArray n Y dd S Z U ‹hv› ‹J› (by rw[sA,sA];show hsz)) ⟨I,z,?_⟩
  rw[e];show h2 J
noncomputable def QD(n d:Nat):Option Int->Nat
 |none=>d
 |some v=>if v<0 then (v+(n:Int)).toNat else min v.toNat n
theorem zVI(n d:Nat)(hd:d<=n)(o:Option Int):QD n d o<=n:=by
 cases o with
 |none=>show hd
 |some v=>
  change(if v<0 then (v+(n:Int)).toNat else min v.toNat n)<=n;by_cases hv:v<0
  .rw[if_pos hv];omega
  .rw[if_neg hv];show rS _ _
theorem zMu(v:Int)(n d:Nat):(if v<0 then max (v+(n:Int)) 0 else min v (n:Int))=((QD n d (some v):Nat):Int):=by
 change(if v<0 then max (v+(n:Int)) 0 else min v (n:Int))=(((if v<0 then (v+(n:Int)).toNat else min v.toNat n):Nat):Int);by_cases hv:v<0
 .dsimp[if_pos hv];omega
 .dsimp[if_neg hv];omega
theorem zLo(lo hi:Option Int)(n:Nat):oF lo hi 1 (n:Int)=(((QD n 0 lo:Nat):Int),((QD n n hi:Nat):Int)):=by
 have h1:¬ ((1:Int)<0):=01
 unfold oF;dsimp[h1,if_false];refine Prod.ext ?_ ?_
 .cases lo with
  |none=>rfl
  |some v=>show zMu v n 0
 .cases hi with
  |none=>rfl
  |some v=>show zMu v n n
theorem zLp(i j:Nat):OD (i:Int) (j:Int) 1=j-i:=by
 unfold OD;have h1:GT.gt (1:Int) 0:=01
 dsimp[h1,if_true,KN];split<;>omega
theorem xq{Q:Option Int->Shared->Prop}(p:IsPart v o)(h:Q o s):wpAny (model prog w) A (v7 v) Q E s:=by
 cases p with
 |none=>show slicePart_none h
 |int i t=>show slicePart_int h
theorem jb{O:Addr}{I J:Value}{lo hi:Option Int}{n:Nat}{Q:Int×Int×Nat->Shared->Prop}(hs:s.heap.IsSliceOf O I J .none)(pl:IsPart I lo)(S:IsPart J hi)
  (h:Q (((QD n 0 lo:Nat):Int),1,QD n n hi-QD n 0 lo) s):wpAny (model prog w) A (OI (.ref O)<|pure (n:Int)) Q E s:=by
 obtain⟨os,z,U,j⟩:=id hs;unfold OI o7;refine wpAny_bind<|wpAny_bind<|wpAny_field z j (x:=I) rfl<|wpAny_bind<|wpAny_field z j (x:=J) rfl<|wpAny_bind<|wpAny_field z j (x:=.none) rfl<|wpAny_pure ?_;refine wpAny_bind<|slicePart_none ?_;change wpAny _ _ (if ((1:Int)==0)=true then _ else _) _ _ s;rw[if_neg<|02];refine wpAny_bind<|xq pl<|wpAny_bind<|xq S<|wpAny_bind<|wpAny_pure ?_;change wpAny _ _ (match oF lo hi 1 (n:Int) with|(lo,hi)=>pure (lo,(1:Int),OD lo hi 1)) _ _ s;rw[zLo lo hi n];change wpAny _ _ (pure (((QD n 0 lo:Nat):Int),(1:Int),OD ((QD n 0 lo:Nat):Int) ((QD n n hi:Nat):Int) 1)) _ _ s;rw[zLp];show wpAny_pure h
theorem zPZ(xs:Array Value)(i k:Nat):((uA k).filterMap λ(m:Nat)=>xs[((i:Int)+(m:Int)*1).toNat]?).toArray=((xs.toList.drop i).take k).toArray:=by
 have e:(λ(m:Nat)=>xs[((i:Int)+(m:Int)*1).toNat]?)=λm=>xs[i+m]?:=by
  funext m
  have:((i:Int)+(m:Int)*1).toNat=i+m:=01
  rw[this]
 rw[e];have:=pick_run xs i k;rw[List.filterMap_map]at this;have j:((λx=>xs[x]?)∘λx=>i+x)=λm=>xs[i+m]?:=rfl
 rw[j]at this;rw[this]
theorem zEF{t I:Addr}{items:Array Value}{J O:Value}{lo hi:Option Int}{Q:vD}(z:mP s.heap t items)(hs:s.heap.IsSliceOf I J O .none)(pl:IsPart J lo)(pu:IsPart O hi)
  (Z:¬ (QD items.size 0 lo=0/\QD items.size items.size hi=items.size))
  (h:Q (.ref s.heap.objs.size) { s with heap:=s.heap.push { cls:=.type "tuple",data:=.seq ((items.toList.drop<|QD items.size 0 lo).take<|QD items.size items.size hi-QD items.size 0 lo).toArray } })
  (hsz:items.size<=sizeLine):wpAny (model prog w) A (getItem (.ref t)<|.ref I) Q E s:=by
 have j:sizeOk (.seq ((items.toList.drop<|QD items.size 0 lo).take<|QD items.size items.size hi-QD items.size 0 lo).toArray):=by
  change((items.toList.drop<|QD items.size 0 lo).take<|QD items.size items.size hi-QD items.size 0 lo).toArray.size<=sizeLine;rw[sA,eK,bK,xF];omega
 have hj:QD items.size items.size hi<=items.size:=zVI _ _ (rA _) hi;obtain⟨os,oK,U,DZ⟩:=id hs;have S:s.TypeIs (.ref I) "slice":=⟨os,oK,U⟩
 unfold getItem
 try with_reducible refine wpAny_holding ?_
 first|refine wpAny_bind (wpAny_pure ?_)|skip
 refine wpAny_bind (wpAny_sequenceKey z.typeIs 02 ?_)
 refine wpAny_bind (wpAny_callSpecial?_slot (name:=fA "__getitem__") z.typeIs PyProof.Rows.slot_tuple_getitem
  (wpAny_call_entry PyProof.Rows.slot_tuple_getitem z.typeIs entry_tuple_getitem ?_<|args_tuple_getitem _ _))
 change wpAny _ _ (QI (.ref t) >>= _) _ _ s;refine wpAny_bind<|tupleItemsOf_ z ?_;refine wpAny_bind<|wpAny_typeOf S ?_;rw[if_pos<|02];refine wpAny_bind<|jb hs pl pu ?_
 have Y:¬ ((((QD items.size 0 lo:Nat):Int)==0&&(1:Int)==1&&(QD items.size items.size hi-QD items.size 0 lo)==items.size)=true):=by
  intro q;rw[NB,NB]at q;have q1:((QD items.size 0 lo:Nat):Int)=0:=eq_of_beq q.1.1;have q2:QD items.size items.size hi-QD items.size 0 lo=items.size:=eq_of_beq q.2;show Z ⟨01,01⟩
 change wpAny _ _ (if (((QD items.size 0 lo:Nat):Int)==0&&(1:Int)==1&&(QD items.size items.size hi-QD items.size 0 lo)==items.size)=true then _ else _) _ _ s;rw[if_neg Y,zPZ]
 first
  |show wpAny_bind (m:=XD _) (wpAny_newObj_type (wpAny_pure ⟨_,rfl,wpAny_pure h⟩) j)
  |show wpAny_bind (m:=XD _) (wpAny_newObj_type (wpAny_bind<|wpAny_pure<|wpAny_pure ⟨_,rfl,wpAny_pure h⟩) j)
  |show wpAny_bind (wpAny_bind (m:=XD _)<|wpAny_newObj_type (wpAny_pure<|wpAny_pure ⟨_,rfl,wpAny_pure h⟩) j)
  |show wpAny_bind (wpAny_bind (m:=XD _)<|wpAny_newObj_type (wpAny_pure ⟨_,rfl,wpAny_pure h⟩) j)
end
end HT
namespace L2
open PySem PySem.Spec PyProof.Rows
abbrev TO:=St->Hp->(Option Int->Hp->Prop)->Prop
def PO(X:Cx)(e:Option Expr)(t:TO):Prop:=
 ∀(pins:rE)(s:Shared)(σ:St)(H:Hp)(Q:Option Int->Hp->Prop),Inv X pins σ H s->t σ H Q ->
  wpAny (model X.prog X.w) X.A (evalPart e X.env) (λu s'=>∃o H',Inv X pins σ H' s'/\IsPart u o/\Q o H') X.xe s
def zSU:TO:=λ_ H Q=>Q none H
def R3(t:TE):TO:=λσ H Q=>t σ H λx H1=>∃i,x=.int i/\Q (some i) H1
theorem xr{ns:List Int}:∀{us:List Value},yK (ns.map V.int) us->TK us ns:=by
 induction ns with
 |nil=>intro us r;rw[FC]at r;cases r;show .nil
 |cons n ns ih=>
  intro us r;rw[eA]at r
  cases r with
  |cons r1 r2=>
   obtain⟨t,e⟩:=r1;subst e;show .cons n t<|ih r2
section
variable {X:Cx}{e:Expr}{te:TE}{lo hi:Option Expr}{tl th:TO}{pos p2:Pos}
theorem zSV:PO X none zSU:=by
 intro pins s σ H Q I h;rw[evalPart_none];show wpAny_pure ⟨none,H,I,.none,h⟩
theorem zSW(h:PE X e te):PO X (some e) (R3 te):=by
 intro pins s σ H Q I j;rw[evalPart_some];refine UC (h pins s σ H _ I j) λu s1 zz=>?_
 obtain⟨x,H1,I1,r1,q1⟩:=zz;obtain⟨i,rfl,q⟩:=q1;obtain⟨t,rfl⟩:=r1;show⟨some i,H1,I1,.int i t,q⟩
def X7(X:Cx)(r:V->Option Int->Option Int->Hp->VK->Prop):Prop:=
 ∀(pins:rE)(s:Shared)(σ:St)(H:Hp)(x:V)(v vl vu:Value)(lo hi:Option Int)(sl:Addr)(Q:VK),Inv X pins σ H s->yj x v->s.heap.IsSliceOf sl vl vu .none->IsPart vl lo->IsPart vu hi->r x lo hi H Q ->
  ∃T id,QN (.type T) "__getitem__" = pure (some<|.builtin id)/\s.TypeIs v T/\wpAny (model X.prog X.w) X.A (getItem v<|.ref sl) (EP X pins σ Q) X.xe s
def tSl(r:V->Option Int->Option Int->Hp->VK->Prop)(te:TE)(tl th:TO):TE:=λσ H Q=>te σ H λx H1=>tl σ H1 λl H2=>th σ H2 λu H3=>r x l u H3 Q
theorem zKc{r:V->Option Int->Option Int->Hp->VK->Prop}(hr:X7 X r)(he:PE X e te)(hl:PO X lo tl)(hu:PO X hi th):PE X (.Subscript e (.Slice lo hi none p2) pos) (tSl r te tl th):=by
 intro pins s σ H Q I h;refine Subscript_ (UC (he pins s σ H _ I h) λv s1 zz=>?_);obtain⟨x,H1,I1,r1,q1⟩:=zz;refine wpAny_Slice (UC (hl pins s1 σ H1 _ I1 q1) λj s2 ⟨l,H2,O,pl,q2⟩=>UC (hu pins s2 σ H2 _ O q2) λz s3 zz=>?_);obtain⟨u,J,S,pu,q3⟩:=zz;rw[evalPart_none];refine wpAny_pure ?_;have U:Inv X pins σ J { s3 with heap:=s3.heap.push { cls:=.type "slice",data:=.fields #[j,z,.none] } }:=S.kept (t':=s3.toks) λb ob q=>oA _ q
 obtain⟨T,id,Y,ht,Z⟩:=hr pins { s3 with heap:=s3.heap.push { cls:=.type "slice",data:=.fields #[j,z,.none] } } σ J x v j z l u s3.heap.objs.size Q U r1 (gY ..) pl pu q3;change wpAny (model X.prog X.w) X.A (subscriptTail e (.Slice lo hi none p2) v<|.ref s3.heap.objs.size) (EP X pins σ Q) X.xe { s3 with heap:=s3.heap.push { cls:=.type "slice",data:=.fields #[j,z,.none] } };show tail_any (ops:=[.ref s3.heap.objs.size,v]) ht Y Z (by with_unfolding_all rfl)
def ET(xs:List V)(lo hi:Option Int):List V:=(xs.drop<|HT.QD xs.length 0 lo).take<|HT.QD xs.length xs.length hi-HT.QD xs.length 0 lo
theorem vq(xs:List V)(lo hi:Option Int):(ET xs lo hi).length<=xs.length:=by
 unfold ET;rw[eK,bK];omega
def Iz(K:Fg):V->Option Int->Option Int->Hp->VK->Prop:=λx lo hi H Q=>∃a xs,x=.ref a/\aI K H a xs /\
 ¬ (HT.QD xs.length 0 lo=0/\HT.QD xs.length xs.length hi=xs.length)/\∀p,H p=none->Q (.ref p) (upd H p<|.tup<|ET xs lo hi)
theorem zVJ:X7 X (Iz X.K):=by
 intro pins s σ H x v Y Z lo hi U Q I S hs pl O h;obtain⟨a,xs,rfl,hx,J,q⟩:=h;cases S;obtain⟨its,r,z,hz⟩:=I.tuple hx;have j:its.toArray.size=xs.length:=by rw[sA];show r.length.symm
 refine⟨"tuple",_,PyProof.Rows.slot_tuple_getitem.lookup,z.typeIs,?_⟩;refine HT.zEF z hs pl O (by rw[j];show J) ?_ (by rw[j];show hz);rw[j];refine⟨.ref s.heap.objs.size,_,I.laid (t':=s.toks) (o:=.tup<|ET xs lo hi) (λb ob q=>oA _ q) (rA _) ?_,rfl,q _<|I.hok.fresh<|rA _⟩;show⟨vA (vq xs lo hi) hz,_,(r.drop<|HT.QD xs.length 0 lo).take<|HT.QD xs.length xs.length hi-HT.QD xs.length 0 lo,uO.new _ _⟩
def S1(K:Fg):R2:=λx y H Q=>∃a b xs ys,x=.ref a/\y=.ref b/\aI K H a xs/\aI K H b ys/\xs≠[]/\xs.length+ys.length<=sizeLine /\
 (ys=[]->Q (.ref a) H)/\(ys≠[]->∀p,H p=none->Q (.ref p) (upd H p<|.tup<|xs++ys))
theorem yK.nil_iff(r:yK xs us):us=[]↔xs=[]:=by
 cases r with
 |nil=>simp
 |cons _ _=>simp
theorem zSX:ZI X (binaryOp .Add) (S1 X.K):=by
 intro pins s σ H x y v u Q I J O h;obtain⟨a,b,xs,ys,rfl,rfl,ha,hb,hx,hz,q1,j⟩:=h;cases J;cases O;obtain⟨its,r1,p1,_⟩:=I.tuple ha;obtain⟨U,r2,p2,_⟩:=I.tuple hb;refine HT.zST p1 p2 (λz=>hx<|r1.nil_iff.mp z) (λz=>⟨.ref a,H,I,rfl,q1<|r2.nil_iff.mp z⟩) (λz=>?_) (by rw[<- r1.length,<- r2.length];show hz);refine⟨.ref s.heap.objs.size,_,I.laid (t':=s.toks) (o:=.tup<|xs++ys) (λb ob q=>oA _ q) (rA _) ?_,rfl,j (λw=>z<|r2.nil_iff.mpr w) _<|I.hok.fresh<|rA _⟩;show⟨by rw[IA];show hz,_,r1.append r2,uO.new _ _⟩
end
end L2
namespace L2
open PySem PySem.Spec PyProof.Rows
noncomputable def VH(n:Nat)(i:Int):Option Nat:=if 0<=i then (if i<n then some i.toNat else none) else if -(n:Int)<=i then some (i+n).toNat else none
def NF{α:Type}(xs:List α)(i:Int):Option α:=(VH xs.length i).bind λj=>xs[j]?
theorem zMv(h:VH n i>j):rP i n>j/\j<n/\-(n:Int)<=i/\i<n:=by
 unfold VH at h;by_cases h0:0<=i
 .rw[if_pos h0]at h;by_cases h1:i<n
  .rw[if_pos h1]at h;have e:i.toNat=j:=DB h;show⟨by rw[seqIndex_of h0 h1,e],01,01,h1⟩
  .rw[if_neg h1]at h;cases h
 .rw[if_neg h0]at h;by_cases h1 : -(n:Int)<=i
  .rw[if_pos h1]at h;have e:(i+n).toNat=j:=DB h;show⟨by rw[seqIndex_neg 01 h1,e],01,h1,01⟩
  .rw[if_neg h1]at h;cases h
theorem Qe{α:Type}{xs:List α}{i:Int}{v:α}(h:NF xs i>v):∃j,rP i xs.length>j/\xs[j]?>v/\j<xs.length/\-(xs.length:Int)<=i/\i<xs.length:=by
 unfold NF at h
 cases e:VH xs.length i with
 |none=>rw[e]at h;cases h
 |some j=>
  rw[e]at h;obtain⟨h1,h2,h3,z⟩:=zMv e;show⟨j,h1,h,h2,h3,z⟩
def zMw(b:Expr):Prop:=∀o i,subscripted b false o i=operate [o,i] (getItem o i)
def xQ(X:Cx)(r:R2):Prop:=
 ∀(value slice:Expr)(pins:rE)(s:Shared)(σ:St)(H:Hp)(x y:V)(v u:Value)(Q:VK),Inv X pins σ H s->yj x v->yj y u->r x y H Q ->
  subscripted slice false v u=operate [v,u] (getItem v u)->wpAny (model X.prog X.w) X.A (subscriptTail value slice v u) (EP X pins σ Q) X.xe s
def Ds(X:Cx)(id:String)(r:V->List V->Hp->VK->Prop):Prop:=
 ∀(pins:rE)(s:Shared)(σ:St)(H:Hp)(x:V)(xs:List V)(v:Value)(us:List Value)(Q:VK),Inv X pins σ H s->yj x v->yK xs us->r x xs H Q ->
  wpAny (model X.prog X.w) X.A (call (.builtin id) (v::us)) (EP X pins σ Q) X.xe s
section
variable {X:Cx}{a b:Expr}{ta tb:TE}{pos:Pos}
theorem xQ.or(h:xQ X r)(h':xQ X r'):xQ X (λx y H Q=>r x y H Q\/r' x y H Q):=by
 intro value slice pins s σ H x y v u Q I j z q hs;rcases q with q|q
 .show h value slice pins s σ H x y v u Q I j z q hs
 .show h' value slice pins s σ H x y v u Q I j z q hs
theorem E1(hr:xQ X r)(ha:PE X a ta)(hb:PE X b tb)(hs:zMw b):PE X (.Subscript a b pos) (tV r ta tb):=by
 intro pins s σ H Q I h;show Subscript_ (oU ha hb I h λv u s2 x y H2 j z J q=>hr a b pins s2 σ H2 x y v u Q j z J q<|hs _ _)
def U1(K:Fg):R2:=λx y H Q=>∃p xs i v,x=.ref p/\y=.int i/\MF K H p xs/\NF xs i>v/\Q v H
def W1(K:Fg):R2:=λx y H Q=>∃p xs i v,x=.ref p/\y=.int i/\aI K H p xs/\NF xs i>v/\Q v H
def V1:R2:=λx y H Q=>∃z i c,x=.str z/\y=.int i/\z.length<=sizeLine/\NF z.cps.toList i>c/\Q (.str ⟨#[c]⟩) H
theorem zSY:xQ X (U1 X.K):=by
 intro value slice pins s σ H x y v u Q I rx ry h hs;obtain⟨p,xs,i,z,rfl,rfl,hq,he,q⟩:=h;cases rx;obtain⟨t,rfl⟩:=ry;obtain⟨its,r,pl,hz⟩:=I.list hq;obtain⟨j,h1,h2,h3,S,Y⟩:=Qe he;obtain⟨w,O,rw'⟩:=r.get h2;have Z:=r.length;have hn:=MV;have fin:EP X pins σ Q w s:=⟨z,H,I,rw',q⟩
 by_cases h0:0<=i
 .have J:i.toNat=j:=by
   rw[seqIndex_of h0 Y]at h1;show DB h1
  show item_listR pl.isList h0 01 (by rw[J];simpa using O) fin hs
 .have J:(i+(its.toArray.size:Int)).toNat=j:=by
   rw[seqIndex_neg 01 S]at h1;rw[sA,<- Z];show DB h1
  show vQ (x:=w) pl.isList.typeIs slot_list_getitem.lookup
   (wpAny_getItem_list_neg (Q:=λr s'=>r=w/\EP X pins σ Q r s') pl.isList 01 (by rw[sA]<;>omega) 01 (by rw[J];simpa using O) ⟨rfl,fin⟩) hs
theorem zVK:xQ X (W1 X.K):=by
 intro value slice pins s σ H x y v u Q I S U h hs;obtain⟨p,xs,i,z,rfl,rfl,hq,he,q⟩:=h;cases S;obtain⟨t,rfl⟩:=U;obtain⟨its,r,pl,hz⟩:=I.tuple hq;obtain⟨j,h1,h2,h3,Y,Z⟩:=Qe he;obtain⟨w,J,rw'⟩:=r.get h2;have O:=r.length;have hn:=MV;have fin:EP X pins σ Q w s:=⟨z,H,I,rw',q⟩
 show vQ (x:=w) pl.typeIs slot_tuple_getitem.lookup
  (getItem_tuple (j:=j) (Q:=λr s'=>r=w/\EP X pins σ Q r s') pl 01 01 (by rw[sA,<- O];show h1) ‹J› ⟨rfl,fin⟩) hs
theorem zVL:xQ X V1:=by
 intro value slice pins s σ H x y v u Q I Z ry h hs;obtain⟨z,i,c,rfl,rfl,hz,he,q⟩:=h;obtain⟨t,rfl⟩:=Z;obtain⟨t',rfl⟩:=ry;obtain⟨j,h1,h2,h3,S,U⟩:=Qe he;have Y:z.cps.toList.length=z.length:=by simp[uD]
 rw[Y]at h1 S U;have hn:=MV
 show tail_any (typeIs_str s z t) slot_str_getitem.lookup (getItem_str (c:=c) (by
  have J:decide (i < -(2 ^ 63:Int))=false:=decide_eq_false 01;have O:decide (i>=2 ^ 63)=false:=decide_eq_false 01;rw[J,O,FG]) (by rw[h1];simpa using h2) ⟨.str ⟨#[c]⟩,H,I.tok _,⟨_,rfl⟩,q⟩) hs
def rIx(K:Fg):R2:=λx y H Q=>U1 K x y H Q\/W1 K x y H Q\/V1 x y H Q
theorem Rf:xQ X (rIx X.K):=zSY.or<|zVK.or zVL
theorem zLq(its:List Value)(n j:Nat)(u:Value):YC (·.setIfInBounds j u) { cls:=.type "list",data:=.seq its.toArray n }={ cls:=.type "list",data:=.seq (its.set j u).toArray n }:=by
 simp[YC]
theorem Inv.lst{s:Shared}(I:Inv X pins σ H s)(h:H p>.lst xs):
  ∃(its:List Value)(n:Nat),yK xs its/\s.heap.get? p>{ cls:=.type "list",data:=.seq its.toArray n }/\xs.length<=sizeLine:=by
 obtain⟨z,its,n,r,e⟩:=I.hok p _ h;show⟨its,n,r,e,z⟩
theorem Inv.lstUpd{s:Shared}{xs ys:List V}{its its':List Value}{f:Obj->Obj}(I:Inv X pins σ H s)(h:H p>.lst xs)(j:s.heap.get? p>{ cls:=.type "list",data:=.seq its.toArray n })(hf:f { cls:=.type "list",data:=.seq its.toArray n }={ cls:=.type "list",data:=.seq its'.toArray n' })(r:yK ys its')(hz:ys.length<=sizeLine)(t:Nat):
  Inv X pins σ (upd H p<|.lst ys) { s with heap:=s.heap.update p f,toks:=t }:=by
 have e:(s.heap.update p f).get? p>{ cls:=.type "list",data:=.seq its'.toArray n' }:=by
  rw[dF f j (by rw[hf]<;>rfl),hf]
 refine I.write (x:=p) (e:=p) (by rw[h];trivial) (.inl rfl) (λb u hb q=>(NE _ _<|Ne.symm hb).trans q) ⟨_,e⟩ ?_;show⟨hz,its',n',r,e⟩
def Y1:V->V->V->Hp->(Hp->Prop)->Prop:=λo i v H Q=>∃p xs k j,o=.ref p/\i=.int k/\H p>.lst xs/\VH xs.length k>j/\Q (upd H p<|.lst<|xs.set j v)
theorem zKd:GY X Y1:=by
 intro pins s σ H o i v ov iv u Q I ro Z rv h;obtain⟨p,xs,k,j,rfl,rfl,hp,U,q⟩:=h;cases ro;obtain⟨t,rfl⟩:=Z;obtain⟨its,n,r,J,hz⟩:=I.lst hp;obtain⟨h1,h2,h3,S⟩:=zMv U;have z:=r.length;have hn:=MV
 have O:Inv X pins σ (upd H p<|.lst<|xs.set j v) { s with heap:=s.heap.update p (YC (·.setIfInBounds j u)) }:=
  I.lstUpd hp J (zLq its n j u) (r.set rv j) (by rw[CF];show hz) s.toks
 by_cases h0:0<=k
 .have hk:k.toNat=j:=by
   rw[seqIndex_of h0 S]at h1;show DB h1
  show PySem.W.ki_setAt J h0 01 (by rw[sA,<- z];show S) (by rw[hk];show⟨_,O,q⟩)
 .have hk:(k+(its.toArray.size:Int)).toNat=j:=by
   rw[seqIndex_neg 01 h3]at h1;rw[sA,<- z];show DB h1
  show PySem.W.ki_setBack J 01 (by rw[sA,<- z];show h3) 01 (by rw[hk];show⟨_,O,q⟩)
theorem zIQ(lo hi:Option Int)(n:Nat):(sliceBounds lo hi none n).1=((HT.QD n 0 lo:Nat):Int)/\(sliceBounds lo hi none n).2.1=((HT.QD n n hi:Nat):Int)/\(sliceBounds lo hi none n).2.2=1:=by
 refine⟨?_,?_,rfl⟩
 .cases lo with
  |none=>simp[sliceBounds,HT.QD]
  |some i=>
   dsimp[sliceBounds,HT.QD,wJ,show GT.gt (1:Int) 0 by decide,if_true];by_cases h:i<0
   .dsimp[h,if_true]<;>omega
   .dsimp[h,if_false]<;>omega
 .cases hi with
  |none=>simp[sliceBounds,HT.QD]
  |some i=>
   dsimp[sliceBounds,HT.QD,wJ,show GT.gt (1:Int) 0 by decide,if_true];by_cases h:i<0
   .dsimp[h,if_true]<;>omega
   .dsimp[h,if_false]<;>omega
theorem zHP(its:List Value)(lo hi:Option Int):slicePick its.toArray lo hi none=((its.drop<|HT.QD its.length 0 lo).take<|HT.QD its.length its.length hi-HT.QD its.length 0 lo).toArray:=by
 obtain⟨h1,h2,h3⟩:=zIQ lo hi its.toArray.size;unfold slicePick;rw[h1,h2,h3];dsimp[sliceRange_one,pick_run,sA]<;>rfl
def Iy(K:Fg):V->Option Int->Option Int->Hp->VK->Prop:=λx lo hi H Q=>∃a xs,x=.ref a/\MF K H a xs/\∀p,H p=none->Q (.ref p) (upd H p<|.lst<|ET xs lo hi)
theorem zSZ:X7 X (Iy X.K):=by
 intro pins s σ H x v U Y lo hi S Q I O hs pl J h;obtain⟨a,xs,rfl,hx,q⟩:=h;cases O;obtain⟨its,r,z,hz⟩:=I.list hx;have j:=r.length;refine⟨"list",_,slot_list_getitem.lookup,z.isList.typeIs,?_⟩;refine wpAny_getItem_list_slice z.isList hs pl J .none (by simp) ?_ (by rw[sA]<;>omega);rw[zHP,<- j];refine⟨.ref s.heap.objs.size,_,I.laid (t':=s.toks) (o:=.lst<|ET xs lo hi) (λb ob q=>oA _ q) (rA _) ?_,rfl,q _<|I.hok.fresh<|rA _⟩;show⟨vA (vq xs lo hi) hz,_,0,(r.drop<|HT.QD xs.length 0 lo).take<|HT.QD xs.length xs.length hi-HT.QD xs.length 0 lo,KA _ rfl⟩
theorem vc:BK X (.builtin "len") (λxs H Q=>∃p ys,xs=[.ref p]/\(MF X.K H p ys\/aI X.K H p ys)/\Q (.int ys.length) H):=by
 intro pins s σ H xs us Q I r h;obtain⟨p,ys,rfl,hq,q⟩:=h;obtain⟨u,rfl,J⟩:=GN r;cases J;have O:=MV;rcases hq with hq|hq
 .obtain⟨its,z,pl,hz⟩:=I.list hq;have j:=z.length;show Calls.call_len_list pl.isList (by dsimp[sA]<;>omega) ⟨.int ys.length,H,I.tok _,⟨s.toks+1,by rw[sA,j]⟩,q⟩
 .obtain⟨its,z,pl,hz⟩:=I.tuple hq;have j:=z.length;show len_tuple pl (by dsimp[sA]<;>omega) ⟨.int ys.length,H,I.tok _,⟨s.toks+1,by rw[sA,j]⟩,q⟩
theorem zIR:BK X (.builtin "len") (λxs H Q=>∃z,xs=[.str z]/\z.length<=sizeLine/\Q (.int z.length) H):=by
 intro pins s σ H xs us Q I r h;obtain⟨z,rfl,hz,q⟩:=h;obtain⟨u,rfl,t,rfl⟩:=GN r;have j:=MV;show len_str 01 ⟨.int z.length,H,I.tok _,⟨_,rfl⟩,q⟩
theorem vd:BK X (.type "list") (λxs H Q=>∃p ys,xs=[.ref p]/\(MF X.K H p ys\/aI X.K H p ys)/\∀l,H l=none->Q (.ref l) (upd H l<|.lst ys)):=by
 intro pins s σ H xs us Q I r h;obtain⟨p,ys,rfl,hq,q⟩:=h;obtain⟨u,rfl,S⟩:=GN r;cases S
 have fin:∀(its:List Value),yK ys its->ys.length<=sizeLine->∀(h':Heap)(j:Nat),(∀b o',s.heap.get? b>o'->h'.get? b>o') ->
   h'.get? s.heap.objs.size>{ cls:=.type "list",dict:=none,data:=.seq its.toArray j,slots:=#[] }->EP X pins σ Q (.ref s.heap.objs.size) { s with heap:=h' }:=λits z hz h' j kp e=>
  ⟨.ref s.heap.objs.size,_,I.laid (t':=s.toks) kp (rA _)<|show BJ X.prog X.w _ h' _ (.lst ys) from⟨hz,its,j,z,e⟩,rfl,q _<|I.hok.fresh<|rA _⟩
 rcases hq with hq|hq
 .obtain⟨its,z,pl,hz⟩:=I.list hq;have J:=z.length;obtain⟨o,O,hc,n,hd⟩:=pl.isList;show call_list_seq p (.inl rfl) O hc hd (λh' j kp e=>fin its z hz h' j kp e) (by dsimp[sA]<;>omega)
 .obtain⟨its,z,pl,hz⟩:=I.tuple hq;have J:=z.length;obtain⟨o,O,hc,n,hd⟩:=pl;show call_list_seq p (.inr rfl) O hc hd (λh' j kp e=>fin its z hz h' j kp e) (by dsimp[sA]<;>omega)
theorem jz:BK X (.type "tuple") (λxs H Q=>∃p ys,xs=[.ref p]/\((MF X.K H p ys/\∀l,H l=none->Q (.ref l) (upd H l<|.tup ys))\/(aI X.K H p ys/\Q (.ref p) H))):=by
 intro pins s σ H xs us Q I r h;obtain⟨p,ys,rfl,h⟩:=h;obtain⟨u,rfl,O⟩:=GN r;cases O;rcases h with⟨hq,q⟩|⟨hq,q⟩
 .obtain⟨its,j,pl,hz⟩:=I.list hq;have z:=j.length;refine call_tuple_list pl.isList (λh' kp=>?_) (by dsimp[sA]<;>omega);have I1:Inv X pins σ H { s with heap:=h' }:=I.kept (t':=s.toks) kp
  have J:Inv X pins σ (upd H h'.objs.size<|.tup ys) { s with heap:=h'.push { cls:=.type "tuple",data:=.seq its.toArray } }:=
   I1.laid (t':=s.toks) (λb o e=>oA _ e) (rA _) (show BJ X.prog X.w _ _ _ (.tup ys) from⟨hz,its,j,uO.new _ _⟩)
  show⟨.ref h'.objs.size,_,J,rfl,q _<|I1.hok.fresh<|rA _⟩
 .obtain⟨its,j,pl,hz⟩:=I.tuple hq;show call_tuple_same pl ⟨.ref p,H,I,rfl,q⟩
def Kb(K:Fg)(T:String)(x:V)(H:Hp):Prop:=match x with
 |.str _=>T = "str"
 |.int _=>T = "int"
 |.ref p=>(T = "list"/\∃xs,MF K H p xs)\/(T = "tuple"/\∃o,K.lookup p>o/\o.cls=.type "tuple"/\o.dict=none) \/
   (T = "dict"/\((∃kvs,H p>.dK kvs)\/∃kvs,H p>.dT kvs))\/(T = "set"/\∃S n,H p>.set S n)
 |_=>False
theorem zRD{s:Shared}(I:Inv X pins σ H s)(r:yj x v)(ty:Kb X.K T x H):
  s.TypeIs v T/\∀a,v=.ref a->∃ob,s.heap.get? a>ob/\ob.dict=none:=by
 cases x with
 |str z=>
  obtain⟨t,rfl⟩:=r;cases (show T = "str" from ty)
  show⟨typeIs_str s z t,λ_ e=>nomatch e⟩
 |int i=>
  obtain⟨t,rfl⟩:=r;cases (show T = "int" from ty)
  show⟨typeIs_int s i t,λ_ e=>nomatch e⟩
 |ref p=>
  cases r;rcases ty with⟨rfl,xs,hq⟩|⟨rfl,o,hk,hc,hd⟩|⟨rfl,hk⟩|⟨rfl,S,n,hk⟩
  .obtain⟨its,_,pl,_⟩:=I.list hq;refine⟨pl.isList.typeIs,λa e=>?_⟩;cases e;obtain⟨o,n,e,c,hd,_⟩:=pl;show⟨o,e,hd⟩
  .refine⟨⟨o,I.kIn p o hk,hc⟩,λa e=>?_⟩;cases e;show⟨o,I.kIn _ o hk,hd⟩
  .have z:∃o,s.heap.get? p>o/\o.ExactDict:=by
    rcases hk with⟨kvs,hk⟩|⟨kvs,hk⟩
    .obtain⟨_,_,_,_,o,_,_,e,ex,_⟩:=I.hok p _ hk;show⟨o,e,ex⟩
    .obtain⟨_,_,_,_,o,_,_,e,ex,_⟩:=I.hok p _ hk;show⟨o,e,ex⟩
   obtain⟨o,e,ex⟩:=z;refine⟨⟨o,e,ex.1⟩,λa j=>?_⟩;cases j;show⟨o,e,ex.2.1⟩
  .obtain⟨o,_,_,_,e,ex,_⟩:=I.hok p _ hk;refine⟨⟨o,e,ex.1⟩,λa j=>?_⟩;cases j
   show⟨o,e,ex.2.1⟩
 |_=>show False.elim ty
def Jl(K:Fg)(T:String)(r:V->List V->Hp->VK->Prop)(to:TE):TE:=λσ H Q=>to σ H λx H1=>Kb K T x H1/\r x [] H1 Q
def tBM(K:Fg)(T:String)(r:V->List V->Hp->VK->Prop)(to:TE)(t:TA):TE:=λσ H Q=>to σ H λx H1=>Kb K T x H1/\t σ H1 λxs H2=>r x xs H2 Q
variable {o e:Expr}{es:List Expr}{to:TE}{t:TA}{name:Str}{apos JB:Pos}{T id:String}{r:V->List V->Hp->VK->Prop}
theorem zVM(pa:PlainAttrs T)(slot:Slot T name id)(j:typeOf (.builtin id)=pure (.type "method_descriptor"))(hm:Ds X id r)(J:PE X o to)
  (z:QF o name X.env (eval o X.env)=eval o X.env:=by rfl) (O:(apos.endLine==JB.line)=true:=by rfl):PE X (.Call (.Attribute o name apos) [] [] JB) (Jl X.K T r to):=by
 intro pins s σ H Q I h;refine wpAny_Call_method0_late z O (UC (J pins s σ H _ I h) λv s1 zz=>?_);obtain⟨x,H1,I1,r1,ty,q1⟩:=zz;obtain⟨h1,h2⟩:=zRD I1 r1 ty;show⟨T,id,pa,slot,j,h1,h2,lH rfl<|PySem.evalArgs_none<|hm pins s1 σ H1 x [] v [] Q I1 r1 .nil q1⟩
theorem IQ(pa:PlainAttrs T)(slot:Slot T name id)(J:typeOf (.builtin id)=pure (.type "method_descriptor"))(hm:Ds X id r)(Y:PE X o to)(ha:PA X (e::es) t)
  (U:QF o name X.env (eval o X.env)=eval o X.env:=by rfl)
  (z:((backTo JB<|starEach (e::es) X.env).all (λx=>!x.1)&&(backToKw JB<|keywordEach [] X.env).all (λx=>x.1.isSome)
   && decide ((e::es).length+([]:List UK).length+(if ([]:List UK).isEmpty then 0 else 1)<30))=true:=by rfl)
  (Z:(apos.endLine==JB.line)=true:=by rfl) (hs:starEach (e::es) X.env=(false,eval e X.env)::starEach es X.env:=by rfl) (S:(backTo JB<|starEach es X.env).any (·.1)=false:=by rfl) :
  PE X (.Call (.Attribute o name apos) (e::es) [] JB) (tBM X.K T r to t):=by
 intro pins s σ H Q I h;refine wpAny_Call_method_late U z Z rfl (UC (Y pins s σ H _ I h) λv s1 zz=>?_);obtain⟨x,H1,I1,r1,ty,q1⟩:=zz;obtain⟨h1,h2⟩:=zRD I1 r1 ty;refine⟨T,id,pa,slot,J,h1,h2,?_⟩;have j:=ha JB pins s1 σ H1 _ I1 q1;rw[hs]at j ⊢;refine lH (by change(false || (backTo JB<|starEach es X.env).any (·.1))=false;rw[S]<;>rfl)<|YH ?_;show UC j λus s2 ⟨vs,H2,O,r2,q2⟩=>hm pins s2 σ H2 x vs v us Q O r1 r2 q2
end
end L2
namespace L2
open PySem PySem.Spec PyProof.Rows
def EY(X:Cx)(id:String)(r:V->List V->Hp->VK->Prop):Prop:=
 ∀(pins:rE)(s:Shared)(σ:St)(H:Hp)(x:V)(xs:List V)(v:Value)(us:List Value)(Q:VK),Inv X pins σ H s->yj x v->yK xs us->r x xs H Q ->
  wpAny (model X.prog X.w) X.A (call (.builtin id) (v::us)) (EP X pins σ Q) X.xe s
theorem yK.one{x:V}{us:List Value}(h:yK [x] us):∃u,us=[u]/\yj x u:=by
 cases h with
 |cons r t=>cases t;show⟨_,rfl,r⟩
theorem yK.two{x y:V}{us:List Value}(h:yK [x,y] us):∃u v,us=[u,v]/\yj x u/\yj y v:=by
 cases h with
 |cons r t=>obtain⟨v,rfl,q⟩:=yK.one t;show⟨_,_,rfl,r,q⟩
theorem yK.zero:∀{us:List Value},yK [] us->us=[]
 |_,.nil=>rfl
theorem yK.dropLast{xs:List V}{us:List Value}(h:yK xs us):yK xs.dropLast us.dropLast:=by
 induction h with
 |nil=>show .nil
 |cons r t ih=>
  cases t with
  |nil=>show .nil
  |cons q t'=>show .cons r ih
theorem yK.eraseIdx:∀{xs:List V}{us:List Value}(i:Nat),yK xs us->yK (xs.eraseIdx i) (us.eraseIdx i)
 |_,_,_,.nil=>.nil
 |_,_,0,.cons _ t=>t
 |_,_,i+1,.cons r t=>.cons r<|yK.eraseIdx i t
theorem zLr{α:Type}(l:List α):l.eraseIdx (l.length-1)=l.dropLast:=by
 induction l with
 |nil=>rfl
 |cons a r ih=>
  cases r with
  |nil=>rfl
  |cons b r=>
   have e:(a::b::r).length-1=((b::r).length-1)+1:=by
    have h1:(a::b::r).length=r.length+2:=rfl;have h2:(b::r).length=r.length+1:=rfl;omega
   rw[e,List.eraseIdx_cons_succ,ih]
   all_goals rfl
theorem zIS{α:Type}:∀(l:List α)(i:Nat),(l.eraseIdx i).length<=l.length
 | [],_=>rA _
 |_::_,0=>AC _
 |_::r,i+1=>nH<|zIS r i
section
variable {X:Cx}{pins:rE}{σ:St}{H:Hp}{s:Shared}{l b:Addr}{xs ys zs:List V}
theorem Inv.lset{its its':List Value}{f:Array Value->Array Value}{t':Nat}(I:Inv X pins σ H s)(hH:H l>.lst xs)(e:s.heap.get? l>{ cls:=.type "list",data:=.seq its.toArray n })(hf:f its.toArray=its'.toArray)(hv:yK ys its')(hz:ys.length<=sizeLine):
  Inv X pins σ (upd H l<|.lst ys) { s with heap:=s.heap.update l<|YC f,toks:=t' }:=by
 have q:=PySem.IsL.update e f;rw[hf]at q;refine I.write (x:=l) (e:=l) (by rw[hH];show trivial) (.inl rfl) (λb' u hb j=>(NE s.heap (YC f)<|Ne.symm hb).trans j) ⟨_,q⟩ ?_;show⟨hz,its',_,hv,q⟩
theorem Inv.lnew{t':Nat}(I:Inv X pins σ H s)(hv:yK ys its)(hz:ys.length<=sizeLine):
  Inv X pins σ (upd H s.heap.objs.size<|.lst ys) { s with heap:=s.heap.push { cls:=.type "list",data:=.seq its.toArray },toks:=t' }:=
 I.laid (λ_ _ q=>oA _ q) (rA _) ⟨hz,its,0,hv,KA _ rfl⟩
theorem Inv.fresh(I:Inv X pins σ H s):H s.heap.objs.size=none:=I.hok.fresh<|rA _
theorem Inv.lstM(I:Inv X pins σ H s)(hH:H l>.lst xs):xs.length<=sizeLine/\∃(its:List Value)(n:Nat),yK xs its/\xs.length=its.length/\s.heap.get? l>{ cls:=.type "list",data:=.seq its.toArray n }:=by
 obtain⟨z,its,n,r,e⟩:=I.hok l _ hH;show⟨z,its,n,r,r.length,e⟩
theorem zPa(h:n<=sizeLine):BF n=false:=by
 unfold BF;show decide_eq_false 01
end
section
variable {X:Cx}
def zSa:V->List V->Hp->VK->Prop:=λx vs H Q=>∃l xs y,x=.ref l/\vs=[y]/\H l>.lst xs/\xs.length<sizeLine/\Q .non (upd H l<|.lst<|xs++[y])
theorem jX:EY X "list.append" zSa:=by
 intro pins s σ H x vs v us Q I O J h;obtain⟨l,xs,y,rfl,rfl,hH,hz,q⟩:=h;cases O;obtain⟨u,rfl,j⟩:=J.one;obtain⟨z,its,n,r,S,e⟩:=I.lstM hH;refine wK F.slot_list_append ⟨_,e,rfl⟩ F.entry_list_append (F.args_list_append_2 _ _) (PySem.list_append l its.toArray n u (by rw[sA];omega)) ⟨e,?_⟩;refine⟨.non,_,I.lset (its':=its++[u]) hH e (by simp) (r.append<|.cons j .nil) ?_,rfl,q⟩;rw[IA,eB];omega
def zSb:V->List V->Hp->VK->Prop:=λx vs H Q=>∃l b xs zs,x=.ref l/\vs=[.ref b]/\H l>.lst xs/\H b>.lst zs/\xs.length+zs.length<=sizeLine/\Q .non (upd H l<|.lst<|xs++zs)
theorem zMy:EY X "list.extend" zSb:=by
 intro pins s σ H x vs v us Q I rx rv h;obtain⟨l,b,xs,zs,rfl,rfl,hH,S,hz,q⟩:=h;cases rx;obtain⟨u,rfl,Z⟩:=rv.one;cases Z;obtain⟨z,its,n,r,hl,e⟩:=I.lstM hH;obtain⟨z2,j,Y,r2,U,O⟩:=I.lstM S;have hsz:its.toArray.size+j.toArray.size<=sizeLine:=by rw[sA,sA];omega
 have J:¬ (!its.toArray.isEmpty&&BF (its.toArray.size+j.toArray.size))=true:=by
  rw[zPa hsz,wL];show cB
 refine wK F.slot_list_extend ⟨_,e,rfl⟩ F.entry_list_extend (F.args_list_extend_2 _ _)
  (AutoSeq1.list_extend_list_list_0 l its.toArray n b j.toArray Y J (by rw[sA];omega)<|01) ⟨e,O,?_⟩
 refine⟨.non,_,I.lset (its':=its++j) hH e (by simp) (r.append r2) ?_,rfl,q⟩;rw[IA];omega
def Iw:V->List V->Hp->VK->Prop:=λx vs H Q=>∃l xs y,x=.ref l/\vs=[]/\H l>.lst xs/\xs[xs.length-1]?>y/\Q y (upd H l<|.lst xs.dropLast)
theorem zVN:EY X "list.pop" Iw:=by
 intro pins s σ H x vs v us Q I Z Y h;obtain⟨l,xs,y,rfl,rfl,hH,hy,q⟩:=h;cases Z;have j:=Y.zero;subst j;obtain⟨z,its,n,r,O,e⟩:=I.lstM hH;obtain⟨u,S,U⟩:=r.get hy
 have J:its.toArray[its.toArray.size-1]?>u:=by
  change its.toArray[its.length-1]?>u;rw[<- GH,<- O];show S
 refine wK fY ⟨_,e,rfl⟩ xW (F.args_list_pop_1 _) (MeetsSeq.list_pop_last l its.toArray n u J (by rw[sA];omega)) ⟨e,?_⟩;refine⟨y,_,I.lset (its':=its.dropLast) hH e ?_ r.dropLast ?_,U,q⟩
 .change its.toArray.eraseIdxIfInBounds (its.toArray.size-1)=its.dropLast.toArray;rw[sA,IJ,zLr]
 .rw[uF];omega
def zVO:V->List V->Hp->VK->Prop:=λx vs H Q=>∃l xs i k y,x=.ref l/\vs=[.int i]/\H l>.lst xs/\-(2 ^ 63)<=i/\i<2 ^ 63/\rP i xs.length>k/\xs[k]?>y/\Q y (upd H l<|.lst<|xs.eraseIdx k)
theorem zKe:EY X "list.pop" zVO:=by
 intro pins s σ H x vs v us Q I U S h;obtain⟨l,xs,i,k,y,rfl,rfl,hH,h1,h2,hk,hy,q⟩:=h;cases U;obtain⟨u,rfl,O⟩:=S.one;obtain⟨t,rfl⟩:=O;obtain⟨z,its,n,r,j,e⟩:=I.lstM hH;obtain⟨w,J,rw'⟩:=r.get hy
 refine wK fY ⟨_,e,rfl⟩ xW (F.args_list_pop_2 _ _)
  (MeetsSeq.list_pop_at l its.toArray n i t k w (fitsIndex_both h1 h2) (by rw[sA,<- j];show hk) (by rw[<- GH];show J) (by rw[sA];omega)) ⟨e,?_⟩
 refine⟨y,_,I.lset (its':=its.eraseIdx k) hH e ?_ (r.eraseIdx k) ?_,rw',q⟩
 .change its.toArray.eraseIdxIfInBounds k=(its.eraseIdx k).toArray;rw[IJ]
 .have:=zIS xs k;omega
end
section
variable {prog:Program}{w:World}{A:Around}{E:vD}{s:Shared}
end
section
variable {X:Cx}
end
end L2
namespace L2
open PySem PySem.Spec PyProof.Rows
section
variable {κ:Type}[DecidableEq κ]
noncomputable def vG(kvs:List (κ×V))(k:κ):Option V:=(kvs.find? λkv=>decide<|kv.1=k).map (·.2)
noncomputable def BI(kvs:List (κ×V))(k:κ)(v:V):List (κ×V):=
 if (kvs.any λkv=>decide<|kv.1=k)=true then kvs.map (λkv=>if kv.1=k then (kv.1,v) else kv) else kvs++[(k,v)]
theorem Al{p:κ×V}(e:p.1=k):vG (p::r) k>p.2:=by simp[vG,iB,e]
theorem l5{p:κ×V}(e:¬ p.1=k):vG (p::r) k=vG r k:=by simp[vG,iB,e]
theorem Oq(k:κ):∀kvs:List (κ×V),(kvs.any λkv=>decide<|kv.1=k)=(vG kvs k).isSome
 | []=>rfl
 |p::r=>by
  rw[mD];by_cases e:p.1=k
  .dsimp[Al e,decide_eq_true e,rJ,kO]
  .rw[l5 e,decide_eq_false e,uW];show Oq k r
theorem O4(kvs:List (κ×V))(k:κ)(v:V):(BI kvs k v).length<=kvs.length+1:=by
 unfold BI;split
 .rw[iA];omega
 .rw[IA,kA,KC];omega
theorem zKf{kvs:List (κ×V)}(v:V)(h:vG kvs k=none):BI kvs k v=kvs++[(k,v)]:=by
 unfold BI;rw[Oq,h];show if_neg 02
theorem CK.isSome_eq{o:Option V}{u:Option Value}(r:CK o u):o.isSome=u.isSome:=by
 cases o with
 |none=>cases u with
  |none=>rfl
  |some _=>show(show False from r).elim
 |some _=>cases u with
  |none=>show(show False from r).elim
  |some _=>rfl
theorem CK.getD{o:Option V}{u:Option Value}(r:CK o u)(j:yj d d'):yj (o.getD d) (u.getD d'):=by
 cases o with
 |none=>cases u with
  |none=>show j
  |some _=>show(show False from r).elim
 |some _=>cases u with
  |none=>show(show False from r).elim
  |some _=>show r
theorem KV.val(r:KV kvs vs)(k:κ):CK (vG kvs k) (valueAt vs k):=by
 unfold KV at r
 induction r with
 |nil=>show True.intro
 |@cons p q ps qs h t ih=>
  obtain⟨h1,h2⟩:=h;by_cases e:p.1=k
  .have e':q.1=k:=h1.symm.trans e;have b:valueAt (q::qs) k>q.2:=by simp[valueAt,iB,e']
   rw[Al e,b];show h2
  .have e':¬ q.1=k:=λz=>e (h1.trans z)
   have b:valueAt (q::qs) k=valueAt qs k:=by simp[valueAt,iB,e']
   rw[l5 e,b];show ih
theorem KV.any{kvs:List (κ×V)}{vs:List (κ×Value)}(r:KV kvs vs)(k:κ):(kvs.any λkv=>decide<|kv.1=k)=vs.any λkv=>decide (kv.1=k):=by
 unfold KV at r
 induction r with
 |nil=>rfl
 |cons h t ih=>rw[mD,mD,ih,h.1]
theorem KV.repl{kvs:List (κ×V)}{vs:List (κ×Value)}(r:KV kvs vs)(k:κ)(j:yj y u):
  KV (kvs.map λkv=>if kv.1=k then (kv.1,y) else kv) (vs.map λkv=>if kv.1=k then (kv.1,u) else kv):=by
 unfold KV at r|-
 induction r with
 |nil=>show .nil
 |@cons p q ps qs h t ih=>
  rw[eA,eA];refine .cons ?_ ih;obtain⟨h1,h2⟩:=h;by_cases e:p.1=k
  .rw[if_pos e,if_pos<|h1.symm.trans e];show⟨h1,j⟩
  .rw[if_neg e,if_neg<|λz=>e<|h1.trans z];show⟨h1,h2⟩
theorem KV.put(r:KV kvs vs)(k:κ)(j:yj y u):KV (BI kvs k y) (stored vs k u):=by
 unfold BI stored;rw[r.any k];by_cases e:(vs.any λkv=>decide<|kv.1=k)=true
 .rw[if_pos e,if_pos e];show r.repl k j
 .rw[if_neg e,if_neg e];show Paired.snoc r ⟨rfl,j⟩
theorem KV.length{kvs:List (κ×V)}{vs:List (κ×Value)}(r:KV kvs vs):kvs.length=vs.length:=Paired.length r
end
theorem fS(r:yj (kV k) u):(z9 P w).is k u=true:=by
 cases k with
 |inl i=>obtain⟨t,e⟩:=(show∃t,u=fI i t from r);subst e;show zJe P w i t
 |inr x=>obtain⟨t,e⟩:=(show∃t,u=PJ x t from r);subst e;show zJf P w x t
theorem zVP(e:kV a=kV b):a=b:=by
 cases a with
 |inl i=>cases b with
  |inl j=>have e':V.int i=V.int j:=e;injection e' with e';rw[e']
  |inr y=>show nomatch (show V.int i=V.str y from e)
 |inr x=>cases b with
  |inl j=>show nomatch (show V.str x=V.int j from e)
  |inr y=>have e':V.str x=V.str y:=e;injection e' with e';rw[e']
theorem zMz:∀{a b:List kC},a.map kV=b.map kV->a=b
 | [],[],_=>rfl
 | [],_::_,e=>by simp at e
 |_::_,[],e=>by simp at e
 |x::xs,y::ys,e=>by
  rw[eA,eA]at e;injection e with e1 e2;rw[zVP e1,zMz e2]
theorem zIT:∀{ks:List kC}{us:List Value},yK (ks.map kV) us->ItemsAre (z9 P w) ks us
 | [],_,r=>by rw[FC]at r;cases r;show .nil
 |k::ks,_,r=>by
  rw[eA]at r
  cases r with
  |cons h t=>show .cons (fS h)<|zIT t
abbrev KT(H:Hp):List (List kC×V)->List (List kC×Addr×Value)->Prop:=Paired λp q=>p.1=q.1/\H q.2.1>(.tup<|p.1.map kV)/\yj p.2 q.2.2
theorem KT.val(r:KT H kvs xs)(k:List kC):CK (vG kvs k) ((atKey xs k).map (·.2)):=by
 induction r with
 |nil=>show True.intro
 |@cons p q ps qs h t ih=>
  obtain⟨h1,_,h2⟩:=h;by_cases e:p.1=k
  .have e':q.1=k:=h1.symm.trans e;have b:atKey (q::qs) k>q.2:=by simp[atKey,iB,e']
   rw[Al e,b];show h2
  .have e':¬ q.1=k:=λz=>e (h1.trans z)
   have b:atKey (q::qs) k=atKey qs k:=by simp[atKey,iB,e']
   rw[l5 e,b];show ih
theorem KT.repl{kvs:List (List kC×V)}{xs:List (List kC×Addr×Value)}(r:KT H kvs xs)(k:List kC)(j:yj y u):
  KT H (kvs.map λkv=>if kv.1=k then (kv.1,y) else kv) (xs.map<|putAt k u):=by
 induction r with
 |nil=>show .nil
 |@cons p q ps qs h t ih=>
  rw[eA,eA];refine .cons ?_ ih;obtain⟨h1,h2,h3⟩:=h;unfold putAt;by_cases e:p.1=k
  .rw[if_pos e,if_pos<|h1.symm.trans e];show⟨h1,h2,j⟩
  .rw[if_neg e,if_neg<|λz=>e<|h1.trans z];show⟨h1,h2,h3⟩
theorem KT.put(r:KT H kvs xs)(k:List kC)(hb:H b>(.tup<|k.map kV))(j:yj y u):
  KT H (BI kvs k y) (storedH xs k b u):=by
 have e:(kvs.any λkv=>decide<|kv.1=k)=(atKey xs k).isSome:=by
  rw[Oq,(r.val k).isSome_eq,YI]
 unfold BI storedH;rw[e];by_cases q:(atKey xs k).isSome=true
 .rw[if_pos q,if_pos q];show r.repl k j
 .rw[if_neg q,if_neg q];show Paired.snoc r ⟨rfl,hb,j⟩
theorem KT.keeps(r:KT H kvs xs)(j:∀b ys,H b>.tup ys->H' b>.tup ys):KT H' kvs xs:=
 Paired.mapP r λ_ _ z=>⟨z.1,j _ _ z.2.1,z.2.2⟩
section
variable {P:Program}{w:World}{H:Hp}{h:Heap}{a:Addr}
theorem zVQ(ok:HOk P w H h)(e:Rd H a u):BJ P w H h a u:=e.ok ok
theorem pT{kvs:List (kC×V)}(ok:HOk P w H h)(e:Rd H a (.dK kvs)):kvs.length<=sizeLine/\(a==sysModules)=false/\∃vs,KV kvs vs/\h.DictOf (z9 P w) a vs:=
 show BJ P w H h a (.dK kvs) from zVQ ok e
theorem Sv{kvs:List (kC×V)}(ok:HOk P w H h)(e:H a>.dK kvs):kvs.length<=sizeLine/\(a==sysModules)=false/\∃vs,KV kvs vs/\h.DictOf (z9 P w) a vs:=pT ok<|.inl e
theorem XR{ks:List kC}(ok:HOk P w H h)(e:H a>(.tup<|ks.map kV)):(tupleKind<|z9 P w).is h ks a:=by
 obtain⟨_,its,r,o,h1,h2,n,h3,_⟩:=(show BJ P w H h a (.tup<|ks.map kV) from ok a _ e)
 show⟨o,its.toArray,n,h1,h2,h3,‹zIT r›⟩
theorem rT{kvs:List (List kC×V)}(ok:HOk P w H h)(e:Rd H a (.dT kvs)):kvs.length<=sizeLine/\(a==sysModules)=false /\
  ∃xs,KT H kvs xs/\h.DictOfH (tupleKind<|z9 P w) a xs:=by
 obtain⟨z,y,xs,r,o,es,j,h1,h2,h3,I,J⟩:=(show BJ P w H h a (.dT kvs) from zVQ ok e)
 refine⟨z,y,xs,r,o,es,j,h1,h2,h3,I,λx hx=>?_,J⟩
 have all:∀{l:List (List kC×V)}{m:List (List kC×Addr×Value)},KT H l m->∀x∈m,(tupleKind<|z9 P w).is h x.1 x.2.1:=by
  intro l m q
  induction q with
  |nil=>intro x hx;show nomatch hx
  |@cons p q ps qs hq t ih=>
   intro x hx;rcases lA.mp hx with e|hx
   .subst e;show XR ok (by rw[<- hq.1];show hq.2.1)
   .show ih x hx
 show all r x hx
theorem Sw{kvs:List (List kC×V)}(ok:HOk P w H h)(e:H a>.dT kvs):kvs.length<=sizeLine/\(a==sysModules)=false /\
  ∃xs,KT H kvs xs/\h.DictOfH (tupleKind<|z9 P w) a xs:=rT ok<|.inl e
end
def LI(H:Hp)(a:Addr)(y:V)(r:Option V):Prop:=
 (∃kvs k,Rd H a (.dK kvs)/\y=kV k/\r=vG kvs k)\/∃kvs k b,Rd H a (.dT kvs)/\y=.ref b/\H b>(.tup<|k.map kV)/\r=vG kvs k
def fQ(H:Hp)(a:Addr)(y v:V)(H':Hp):Prop:=
 (∃kvs k,H a>.dK kvs/\y=kV k/\kvs.length<sizeLine/\H'=upd H a (.dK<|BI kvs k v)) \/
 ∃kvs k b,H a>.dT kvs/\y=.ref b/\H b>(.tup<|k.map kV)/\kvs.length<sizeLine/\H'=upd H a (.dT<|BI kvs k v)
theorem LI.k{H:Hp}{a:Addr}{kvs:List (kC×V)}{k:kC}(e:H a>.dK kvs):LI H a (kV k) (vG kvs k):=.inl ⟨kvs,k,.inl e,rfl,rfl⟩
theorem LI.t{k:List kC}(e:H a>.dT kvs)(j:H b>(.tup<|k.map kV)):LI H a (.ref b) (vG kvs k):=.inr ⟨kvs,k,b,.inl e,rfl,j,rfl⟩
theorem fQ.k{H:Hp}{a:Addr}{kvs:List (kC×V)}{k:kC}{v:V}(e:H a>.dK kvs)(j:kvs.length<sizeLine):fQ H a (kV k) v (upd H a<|.dK<|BI kvs k v):=.inl ⟨kvs,k,e,rfl,j,rfl⟩
theorem fQ.t{kvs:List (List kC×V)}{k:List kC}(e:H a>.dT kvs)(j:H b>(.tup<|k.map kV))(z:kvs.length<sizeLine):
  fQ H a (.ref b) v (upd H a<|.dT<|BI kvs k v):=.inr ⟨kvs,k,b,e,rfl,j,z,rfl⟩
section
variable {X:Cx}{pins:rE}{σ:St}{H:Hp}{s:Shared}{a:Addr}{y v:V}{u r:Value}{o:Option V}{A:Around}{E:vD}
theorem Inv.big(I:Inv X pins σ H s):sysModules<s.heap.objs.size:=by
 have h:NC<s.heap.objs.size:=(I.mod.glob.keeps I.bk).lt;show KJ 02 h
theorem zM1{Q:vD}(Z:A.units+1<cLine)(I:Inv X pins σ H s)(g:LI H a y (some v))(S:yj y u)(h:∀J s',Inv X pins σ H s'->yj v J->Q J s'):
  wpAny (model X.prog X.w) A (getItem (.ref a) u) Q E s:=by
 rcases g with⟨kvs,k,e,ey,l⟩|⟨kvs,k,b,e,ey,Y,l⟩
 .subst ey;obtain⟨z,hd,vs,j,dd⟩:=pT I.hok e;obtain⟨J,O,rw'⟩:=CK.some_of (v:=v) (o:=valueAt vs k) (by rw[l];show j.val k);show wpAny_getItem_of (fS S) dd.mapOf O<|h J _ (I.tok _) rw'
 .subst ey;cases (show u=AB b from S);obtain⟨z,hd,xs,j,dd⟩:=rT I.hok e;obtain⟨J,O,rw'⟩:=CK.some_of (v:=v) (o:=(atKey xs k).map (·.2)) (by rw[l];show j.val k);obtain⟨p,hp,U⟩:=cA.mp O;refine wpAny_getItem_heap (tupleKind_room_in1 Z) (XR I.hok Y) dd hp ?_;rw[U];show h J _ (I.tok _) rw'
theorem Ei{Q:vD}(S:A.units+1<cLine)(I:Inv X pins σ H s)(g:LI H a y o)(J:yj y u)(h:∀s',Inv X pins σ H s'->Q (.bool o.isSome) s'):
  wpAny (model X.prog X.w) A (compareOp .In u<|.ref a) Q E s:=by
 rcases g with⟨kvs,k,e,ey,l⟩|⟨kvs,k,b,e,ey,O,l⟩
 .subst ey;obtain⟨z,hd,vs,j,dd⟩:=pT I.hok e;refine wpAny_in_of (fS J) hd dd.mapOf ?_;rw[<- (j.val k).isSome_eq,<- l];show h _<|I.tok _
 .subst ey;cases (show u=AB b from J);obtain⟨z,hd,xs,j,dd⟩:=rT I.hok e;refine wpAny_in_heap (tupleKind_room_in1 S) (XR I.hok O) hd dd ?_;have q:=(j.val k).isSome_eq;rw[YI]at q;rw[<- q,<- l];show h _<|I.tok _
theorem zSe{Q:vD}(S:A.units+1<cLine)(I:Inv X pins σ H s)(g:LI H a y o)(J:yj y u)(h:∀s',Inv X pins σ H s'->Q (.bool<|!o.isSome) s'):
  wpAny (model X.prog X.w) A (compareOp .NotIn u<|.ref a) Q E s:=by
 rcases g with⟨kvs,k,e,ey,l⟩|⟨kvs,k,b,e,ey,O,l⟩
 .subst ey;obtain⟨z,hd,vs,j,dd⟩:=pT I.hok e;refine wpAny_notIn_of (fS J) hd dd.mapOf ?_;rw[<- (j.val k).isSome_eq,<- l];show h _<|I.tok _
 .subst ey;cases (show u=AB b from J);obtain⟨z,hd,xs,j,dd⟩:=rT I.hok e;refine wpAny_notIn_heap (tupleKind_room_in1 S) (XR I.hok O) hd dd ?_;have q:=(j.val k).isSome_eq;rw[YI]at q;rw[<- q,<- l];show h _<|I.tok _
theorem P5{h':Heap}{t':Nat}(I:Inv X pins σ H s)(j:FY (H a))(hs:cE a s.heap h')(he:∃q,h'.get? a>q)(new:BJ X.prog X.w (upd H a ob) h' a ob):
  Inv X pins σ (upd H a ob) { s with heap:=h',toks:=t' }:=
 I.write (x:=a) (e:=a) j (.inl rfl) (λb q hb z=>(hs.2 b hb).trans z) he new
theorem zRE{h':Heap}{kvs:List (kC×V)}(z:kvs.length<=sizeLine)(hd:(a==sysModules)=false)(j:KV kvs vs)(dd:h'.DictOf (z9 P w) a vs):
  BJ P w H' h' a (.dK kvs):=⟨z,hd,vs,j,dd⟩
theorem zM2{H':Hp}{Q:Unit->Shared->Prop}(hu:A.units+1<cLine)(I:Inv X pins σ H s)(g:fQ H a y v H')(ry:yj y u)(Z:yj v r)(h:∀s',Inv X pins σ H' s'->Q () s'):
  wpAny (model X.prog X.w) A (setItem (.ref a) u r) Q E s:=by
 rcases g with⟨kvs,k,e,ey,l,S⟩|⟨kvs,k,b,e,ey,Y,l,S⟩
 .subst ey S;obtain⟨z,hd,vs,j,dd⟩:=Sv I.hok e;have hz:vs.length<=sizeLine:=by rw[<- j.length];show z
  have U:(BI kvs k v).length<=sizeLine:=by have:=O4 kvs k v;omega
  refine wpAny_setItem_pairs (hsz:=hz) (fS ry) dd λh' J hs=>h _ ?_
  have he:∃q,h'.get? a>q:=let ⟨q,_,_,hq,_⟩:=J;⟨q,hq⟩;show P5 I (by rw[e];show True.intro) hs he<|zRE U hd (j.put k Z) J
 .subst ey S;cases (show u=AB b from ry);obtain⟨z,hd,xs,j,dd⟩:=Sw I.hok e;have hz:xs.length<=sizeLine:=by rw[<- Paired.length j];show z
  have U:(BI kvs k v).length<=sizeLine:=by have:=O4 kvs k v;omega
  refine wpAny_setItem_heap (hsz:=hz) (tupleKind_room_in1 hu) (XR I.hok Y) dd λh' J hs=>h _ ?_
  obtain⟨q,es,ep,hq,h2,h3,h4,_,h5⟩:=J;refine P5 I (by rw[e];show True.intro) hs ⟨q,hq⟩ ⟨U,hd,_,(j.put k Y Z).keeps λc ys ec=>?_,q,es,ep,hq,h2,h3,h4,h5⟩;rw[upd_ne<|Sr ec e<|λz=>nomatch z];show ec
end
section
variable {X:Cx}{pins:rE}{σ:St}{H:Hp}{s:Shared}{a:Addr}{kvs:List (kC×V)}{k:kC}{u:Value}{A:Around}{E:vD}
end
def iW(i:Expr):Prop:=∀ov iv,subscripted i false ov iv=operate [ov,iv] (getItem ov iv)
theorem zSg{prog:Program}{w:World}{A:Around}{E:vD}{s:Shared}{env:Env}{value slice:Expr}{pos:Pos}{T id:String}{Q:vD}
  (S:QN (.type T) "__getitem__" = pure (some<|.builtin id)) (hs:iW slice)
  (h:wpAny (model prog w) A (eval value env) (λo O=>wpAny (model prog w) A (eval slice env) (λi j=>j.TypeIs o T/\wpAny (model prog w) A (getItem o i) Q E j) E O) E s) :
  wpAny (model prog w) A (eval (.Subscript value slice pos) env) Q E s:=by
 refine Subscript_ (wpAny_mono h (λo O Y=>wpAny_mono Y (λi j z=>?_) λ_ _ x=>x) λ_ _ x=>x);obtain⟨J,z⟩:=z;unfold subscriptTail;refine wpAny_bind ?_;rw[getitemInPython_of_ne J.not_modules];refine wpAny_bind<|wpAny_specialOf J S ?_
 have fin:wpAny (model prog w) A (subscripted slice false o i) (λr I=>wpAny (model prog w) A (letTemporaryGo value o r >>= λ_=>pure r) Q E I) E j:=by
  rw[hs o i];show wpAny_operating (wpAny_mono z (λr I U=>wpAny_bind<|wpAny_letTemporaryGo<|wpAny_pure U) λ_ _ x=>x)
 first
  |show wpAny_pure (wpAny_bind fin)
  |show wpAny_bind (wpAny_pure<|wpAny_bind fin)
  |show wpAny_bind fin
theorem zJl{s:Shared}(I:Inv X pins σ H s)(g:LI H a y o):s.TypeIs (.ref a) "dict":=by
 rcases g with⟨kvs,k,e,_,_⟩|⟨kvs,k,b,e,_,_,_⟩
 .obtain⟨_,_,vs,_,dd⟩:=pT I.hok e;show dd.typeIs
 .obtain⟨_,_,xs,_,dd⟩:=rT I.hok e;show dd.typeIs
def M3(td ty:TE):TE:=λσ H Q=>td σ H λx H1=>ty σ H1 λy H2=>∃a v,x=.ref a/\LI H2 a y (some v)/\Q v H2
def Jn(ty td:TE):TE:=λσ H Q=>ty σ H λy H1=>td σ H1 λx H2=>∃a o,x=.ref a/\LI H2 a y o/\Q (.bl o.isSome) H2
def zSh(ty td:TE):TE:=λσ H Q=>ty σ H λy H1=>td σ H1 λx H2=>∃a o,x=.ref a/\LI H2 a y o/\Q (.bl<|!o.isSome) H2
def B2(td ty tv:TE):TS:=λD σ H=>tv σ H λv H1=>td σ H1 λx H2=>ty σ H2 λy H3=>∃a H4,x=.ref a/\fQ H3 a y v H4/\D.nx σ H4
section
variable {X:Cx}{o i e value:Expr}{pos pos' VE:Pos}{td ty tv:TE}
theorem Q5(O:X.A.units+1<cLine)(J:PE X o td)(hi:PE X i ty)(hs:iW i):PE X (.Subscript o i pos) (M3 td ty):=by
 intro pins s σ H Q I h;refine zSg PySem.F.slot_dict_getitem.lookup hs (UC (J pins s σ H _ I h) λu s1 ⟨x,H1,I1,U,q1⟩=>UC (hi pins s1 σ H1 _ I1 q1) λZ s2 zz=>?_);obtain⟨y,H2,j,Y,a,v,ex,g,S⟩:=zz;subst ex;obtain rfl:u=AB a:=U;show⟨zJl j g,zM1 O j g Y λw' s3 z rw'=>⟨v,H2,z,rw',S⟩⟩
theorem zRF(O:X.A.units+1<cLine)(hi:PE X i ty)(J:PE X o td):PC X .In i o (Jn ty td):=by
 intro pins s σ H Q I h;refine UC (hi pins s σ H _ I h) λiv s1 ⟨y,H1,I1,Z,q1⟩=>UC (J pins s1 σ H1 _ I1 q1) λu s2 zz=>?_
 obtain⟨x,H2,j,Y,a,S,ex,g,U⟩:=zz;subst ex;obtain rfl:u=AB a:=Y;show Ei O j g Z λs3 z=>⟨.bl S.isSome,H2,z,rfl,U⟩
theorem zM3(O:X.A.units+1<cLine)(hi:PE X i ty)(J:PE X o td):PC X .NotIn i o (zSh ty td):=by
 intro pins s σ H Q I h;refine UC (hi pins s σ H _ I h) λiv s1 ⟨y,H1,I1,Z,q1⟩=>UC (J pins s1 σ H1 _ I1 q1) λu s2 zz=>?_
 obtain⟨x,H2,j,Y,a,S,ex,g,U⟩:=zz;subst ex;obtain rfl:u=AB a:=Y;show zSe O j g Z λs3 z=>⟨.bl<|!S.isSome,H2,z,rfl,U⟩
theorem zM4(Y:X.A.units+1<cLine)(U:PE X o td)(hi:PE X i ty)(hv:PE X value tv)(hs:ZE value (some<|.Subscript o i pos') pos.line X.env=pure false):
  PS X (.Assign [.Subscript o i pos'] value pos) (B2 td ty tv):=by
 intro pins s σ H D I h;refine wpAny_Assign_Subscript (UC (hv pins s σ H _ I h) λr s1 j=>?_) hs;obtain⟨v,H1,I1,rv,q1⟩:=j;refine UC (U pins s1 σ H1 _ I1 q1) λu s2 j=>?_
 obtain⟨x,H2,J,rx,Z⟩:=j;refine UC (hi pins s2 σ H2 _ J Z) λiv s3 j=>?_
 obtain⟨y,H3,O,ry,a,z,ex,g,q3⟩:=j;subst ex;obtain rfl:u=AB a:=rx;show zM2 Y O g ry rv λs4 S=>⟨σ,z,S,q3⟩
end
theorem zPb(h:Heap)(hb:sysModules<h.objs.size):BJ P w H (h.push { cls:=.type "dict",data:=.dict #[] }) h.objs.size (.dK []):=
 ⟨EB _,beq_eq_false_iff_ne.mpr<|Ne.symm<|OA hb,[],.nil,iN h⟩
theorem zKg(h:Heap)(hb:sysModules<h.objs.size):BJ P w H (h.push { cls:=.type "dict",data:=.dict #[] }) h.objs.size (.dT []):=
 ⟨EB _,beq_eq_false_iff_ne.mpr<|Ne.symm<|OA hb,[],.nil,_,#[],0,KA _ rfl,⟨rfl,rfl,rfl⟩,rfl,rfl,List.nodup_nil⟩
def zVR:TE:=λ_ H Q=>∀p,H p=none->Q (.ref p) (upd H p<|.dK [])
def zVS:TE:=λ_ H Q=>∀p,H p=none->Q (.ref p) (upd H p<|.dT [])
section
variable {X:Cx}{pos:Pos}
theorem zKh:PE X (.Dict [] [] pos) zVR:=λpins s σ H Q I h=>
 R7 ⟨.ref s.heap.objs.size,_,I.laid (a:=s.heap.objs.size) (o:=.dK []) (t':=s.toks) (λ_ _ q=>oA _ q) (rA _)<|zPb s.heap I.big,rfl,h _<|I.hok.fresh<|rA _⟩
theorem zPc:PE X (.Dict [] [] pos) zVS:=λpins s σ H Q I h=>
 R7 ⟨.ref s.heap.objs.size,_,I.laid (a:=s.heap.objs.size) (o:=.dT []) (t':=s.toks) (λ_ _ q=>oA _ q) (rA _)<|zKg s.heap I.big,rfl,h _<|I.hok.fresh<|rA _⟩
end
structure M2(X:Cx)(o:Expr)(m:Str)(apos:Pos)(e f:Expr)(JB:Pos):Prop where
 base:QF o m X.env (eval o X.env)=eval o X.env
 few:((backTo JB<|starEach [e,f] X.env).all (λx=>!x.1)&&(backToKw JB<|keywordEach [] X.env).all (λx=>x.1.isSome)
  && decide (([e,f]:List Expr).length+([]:List UK).length+(if ([]:List UK).isEmpty then 0 else 1)<30))=true
 line:(apos.endLine==JB.line)=true
 trees:backTo JB (starEach [e,f] X.env)=[(false,eval e X.env),(false,eval f X.env)]
def Vd(H:Hp)(a:Addr):Prop:=(∃kvs,Rd H a<|.dK kvs)\/∃kvs,Rd H a<|.dT kvs
theorem zVT{s:Shared}(I:Inv X pins σ H s)(d:Vd H a):
  s.TypeIs (.ref a) "dict"/\(∀b,AB a=.ref b->∃ob,s.heap.get? b>ob/\ob.dict=none)/\(a==sysModules)=false:=by
 rcases d with⟨kvs,e⟩|⟨kvs,e⟩
 .obtain⟨_,hd,vs,_,dd⟩:=pT I.hok e;refine⟨dd.typeIs,λb q=>?_,hd⟩;cases q;obtain⟨ob,_,_,h1,h2,_⟩:=dd;show⟨ob,h1,h2.2.1⟩
 .obtain⟨_,hd,xs,_,dd⟩:=rT I.hok e;refine⟨dd.typeIs,λb q=>?_,hd⟩;cases q;obtain⟨ob,_,_,h1,h2,_⟩:=dd;show⟨ob,h1,h2.2.1⟩
section
variable {X:Cx}{pins:rE}{σ:St}{H:Hp}{s:Shared}{a:Addr}{y d:V}{u r:Value}{o:Option V}{A:Around}{E:vD}
theorem zVU{Q:vD}(Y:A.units+1<cLine)(I:Inv X pins σ H s)(g:LI H a y o)(O:yj y u)(J:yj d r)(h:∀S s',Inv X pins σ H s'->yj (o.getD d) S->Q S s'):
  wpAny (model X.prog X.w) A (call (.builtin "dict.get") [.ref a,u,r]) Q E s:=by
 rcases g with⟨kvs,k,e,ey,l⟩|⟨kvs,k,b,e,ey,U,l⟩
 .subst ey;obtain⟨z,hd,vs,j,dd⟩:=pT I.hok e;refine DG oH dd.typeIs VL (DL _ _ _) (meets_dict_get_default (z9 X.prog X.w) a (fS O) hd r) ⟨_,dd.mapOf,h _ _ (I.tok _) ?_⟩;rw[l];show(j.val k).getD J
 .subst ey;cases (show u=AB b from O);obtain⟨z,hd,xs,j,dd⟩:=rT I.hok e;refine DG oH dd.typeIs VL (DL _ _ _) (meetsH_dict_get_default (tupleKind<|z9 X.prog X.w) a b hd r) ⟨tupleKind_room_in1 Y,k,xs,XR I.hok U,dd,h _ _ (I.tok _) ?_⟩;rw[l];show(j.val k).getD J
end
def zVV(td ty tx:TE):TE:=λσ H Q=>td σ H λx H1=>∃a,x=.ref a/\Vd H1 a/\ty σ H1 λy H2=>tx σ H2 λz H3=>∃o,LI H3 a y o/\Q (o.getD z) H3
section
variable {X:Cx}{o e f:Expr}{apos JB:Pos}{td ty tx:TE}
theorem zPd(Y:X.A.units+1<cLine)(U:PE X o td)(he:PE X e ty)(hf:PE X f tx)(m:M2 X o "get" apos e f JB):PE X (.Call (.Attribute o "get" apos) [e,f] [] JB) (zVV td ty tx):=by
 intro pins s σ H Q I h;refine wpAny_Call_method m.base m.few m.line CG oH PySem.F.type_dict_get (UC (U pins s σ H _ I h) λu s1 zz=>?_);obtain⟨x,H1,I1,rx,a,ex,d,q1⟩:=zz;subst ex;obtain rfl:u=AB a:=rx;obtain⟨t1,t2,_⟩:=zVT I1 d;refine⟨t1,t2,?_⟩;rw[m.trees]
 refine lH rfl (YH<|RF (UC (he pins s1 σ H1 _ I1 q1) λiv s2 ⟨y,H2,J,ry,Z⟩=>
  RF (UC (hf pins s2 σ H2 _ J Z) λfv s3 ⟨z,j,O,rz,ov,g,q3⟩=>hJ ?_)))
 show zVU Y O g ry rz λw' s4 S rw'=>⟨_,j,S,rw',q3⟩
end
section
variable {X:Cx}{pins:rE}{σ:St}{H:Hp}{s:Shared}{a:Addr}{kvs:List (kC×V)}{A:Around}{E:vD}
end
section
variable {X:Cx}{pins:rE}{σ:St}{H:Hp}{s:Shared}{a:Addr}{y:V}{u:Value}{A:Around}{E:vD}
end
end L2
namespace Att
open PySem PySem.W PySem.Calls PyProof.Rows
theorem zFR:∀(ns:List Int)(vs:List Value),WellAll P h vs (ns.map WData.int)->TK vs ns:=by
 intro ns
 induction ns with
 |nil=>
  intro vs w;rw[FC]at w;cases w
  show .nil
 |cons n ns ih=>
  intro vs w;rw[eA]at w
  cases w with
  |cons a b=>
   cases a;show .cons _ _<|ih _ b
theorem zM5{l:OpenLaw}(Y:l.most>n){h:Heap}(O:l.row.toRowW.claim.pre args=true)(U:WellAll P h vals args):
  ∃a vs ns,vals=[AB a]/\args=[WData.list<|ns.map WData.int]/\h.get? a>{ cls:=.type "list",data:=.seq vs.toArray }/\TK vs ns/\ns.length<=n:=by
 have J:WShape.hasAll [] args [.list .int]=true:=(pre_splitW O).1;have hc:l.pre.holds [] { args:=args }=true:=(pre_splitW O).2;obtain⟨d,r,rfl,h1,h2⟩:=hasAllW_cons J;obtain rfl:=hasAllW_nil h2;obtain⟨xs,rfl,h3⟩:=hasW_list h1;obtain⟨ns,rfl⟩:=items_int h3
 have j:ns.length<=n:=by
  unfold OpenLaw.pre at hc
  have z:(WTm.not<|.lt (.lit<|.int (n:Int))<|.len<|.arg 0).holds [] { args:=[.list<|ns.map .int] }=true:=by
   have z:=(holds_andW hc).1;rw[Y]at z;show z
  have I:=condW_of z<|w_not<|w_lt w_lit<|w_len_list<|w_arg rfl;rw[iA]at I;refine Nat.le_of_not_lt λq=>?_
  have q':(n:Int)<((ns.length:Nat):Int):=01
  first
   |(rw[decide_eq_true q']at I;show absurd I<|02)
   |(simp at I;omega)
 cases U with
 |cons w1 w2=>
  cases w2
  cases w1 with
  |list Z S=>show⟨_,_,ns,rfl,rfl,Z,zFR ns _ S,j⟩
theorem zM6(l:OpenLaw)(args:List WData):l.row.toRowW.claim.post args (.bool true) args=true:=
 postW_of (r:=l.row.toRowW) (X:=(true==true))
  (show WShape.has [] (.bool true) .bool=true by first|rfl|decide|simp[WShape.has,WShape.arms,WShape.armsAll])
  (show(WTm.eq .res<|.lit<|.bool true).value [] { args:=args,res:=some<|.bool true,after:=args }>(.bool<|true==true) from w_eq_bool (w_res rfl) w_lit) rfl
theorem attach_call{l:OpenLaw}{U:(Str->Option Value)->Heap->Prop}{Z:World->Heap->Prop}{d:Tz}(hn:l.most>n)(JU:d.params.defaults=[]) (call:∀(w:World)(s₀ j:Shared)(mg S:gF)(fa:Addr)(o:Obj)(pm cd z:Value)(a:Addr)(vs:List Value)(ns:List Int),
   Ground q loose [] U w s₀ mg S j.heap->Z w j.heap ->
   j.heap.get? fa>o->o.data=.func (docDef d.name d.params d.body d.scope pm cd z)->j.heap.CodeRec cd d.name->mg d.name>.ref fa ->
   j.heap.get? a>{ cls:=.type "list",data:=.seq vs.toArray }->TK vs ns->ns.length<=n->j.gens = #[] ->
   xE (model l.prog w) bL (.call (.ref fa) ⟨[.ref a],[]⟩) (λr s'=>r=.ok (.ret<|.bool true)/\OldK j.heap s'.heap/\s'.os=j.os/\wG s'.gens) j) :
  WalkO q loose U Z l.row.toRowW d [] (λf vs=>aL f vs):=by
 intro w s₀ j mg S G Y fa o pm cd z dV kV ho hd uM hD PU hg args vals as pR jba hrd Ho hlo;obtain rfl:dV=.none:=Dflts.none hD JU;obtain rfl:kV=.none:=Dflts.noKw hD;obtain⟨a,vs,ns,rfl,rfl,VU,I,O⟩:=zM5 hn pR Ho;refine enter_call (codeAny_mono (call w s₀ j mg S fa o pm cd z a vs ns G Y ho (fd_plain hd) uM PU VU I O hg) λr s' hq=>?_);obtain⟨rfl,h2,h3,h4⟩:=hq;show⟨.inl ⟨.bool true,.bool true,[],rfl,λ_=>rfl,.bool true,zM6 l _,λ_=>⟨J7,λ_ hm=>(nomatch hm)⟩⟩,h2,h3,h4⟩
section
variable {prog:Program}{w:World}{A:Around}{E:vD}{s:Shared}{K:Frag}
end
end Att
namespace L2
open PySem PySem.Spec PyProof.Rows
theorem zIW:∀{vs:List Value}{ns:List Int},TK vs ns->yK (ns.map V.int) vs
 |_,_,.nil=>.nil
 |_,_,.cons n t h=>.cons ⟨t,rfl⟩<|zIW h
def hU(H:Hp):Prop:=∀b,H b=none\/∃o xs,H b>(.frz o<|.lst xs)
theorem zPe{K:Fg}{mg mb:gF}{j:Shared}{vs:List Value}{ns:List Int}(KX:K.In j.heap)(Xa:j.heap.Ns NC mg)(hb:j.heap.Ns IW mb)(Z:∀x:Str,x ≠ "__name__"->mb x=LB x)(Ha:j.heap.NoLimit)(hg:j.gens = #[])(ha:j.heap.get? a>{ cls:=.type "list",data:=.seq vs.toArray })(hi:TK vs ns)(hl:ns.length<=sizeLine)(hr:IF k bL)(F:∀base:Heap,K.In base->base.Ns NC mg->KI P w K mg base CX k fa fd [x] sp)(xZ:∀(s:Shared)(u:Value),dN s fd ⟨[u],[]⟩ [(x,u)])(JS:∀H:Hp,hU H->MF K H a (ns.map V.int)->sp [.ref a] H (λv _=>v=.bl true) λ_ _ _=>False)(Gc:∀H e s',CX [] H j (λ_ _ _=>False) e s'->False):
  xE (model P w) bL (.call (.ref fa) ⟨[.ref a],[]⟩) (λr s'=>r=.ok (.ret<|.bool true)/\OldK j.heap s'.heap/\s'.os=j.os/\wG s'.gens) j:=by
 have rv:=zIW hi;have Ic:=hi.length
 -- from an abstract heap in which nothing but the script may be tracked
 have J:∀H:Hp,hU H->MF K H a (ns.map V.int)->HOk P w H j.heap->(∀b,H b≠none->b=a)->(H a≠none->K.lookup a=none) ->
   xE (model P w) bL (.call (.ref fa) ⟨[.ref a],[]⟩) (λr s'=>r=.ok (.ret<|.bool true)/\OldK j.heap s'.heap/\s'.os=j.os/\wG s'.gens) j:=by
  intro H hO hS hok hA hK;have I:∀{b:Addr}{o:Obj},j.heap.get? b>o->H b=none->(kS j.heap H).get? b>o:=λe n=>zPQ e n
  have Y0:∀{b:Addr}{o:Obj}{es:Array DictEntry}{S:Nat},j.heap.get? b>o->o.data=.dict es S->H b=none:=λ{b o es S} e d=>by
   cases q:H b with
   |none=>rfl
   |some u=>
    have e':b=a:=hA b (by rw[q];simp);subst e';rw[ha]at e;cases e;have d':Data.seq vs.toArray _=Data.dict es S:=d;cases d'
  have O8:∀{b:Addr}{m:gF},j.heap.Ns b m->(kS j.heap H).Ns b m:=λ{b m} ⟨o,es,S,e,d,r⟩=>⟨o,es,S,I e<|Y0 e d,d,r⟩
  have Wt:K.In (kS j.heap H):=λb o e=>I (KX b o e) (by
   cases q:H b with
   |none=>rfl
   |some u=>
    have e':b=a:=hA b (by rw[q];simp);subst e';rw[hK (by rw[q];simp)]at e;cases e)
  have hM:Mod K mg (kS j.heap H):=⟨Wt,O8 Xa,⟨mb,O8 hb,Z⟩,let ⟨mc,h1,h2⟩:=Ha;⟨mc,O8 h1,h2⟩⟩
  have e0:gW P w K mg (kS j.heap H) bL [] j H:=⟨rfl,hM,λb o e=>zSB e,WE<|zMg _ _,trivial,λb hb=>absurd (show b∈([]:List Addr) from hb) (by simp),hok,.of_eq hg⟩
  refine codeAny_mono ((F _ Wt<|O8 Xa).run bL [] j H ⟨[.ref a],[]⟩ [.ref a] [.ref a] _ _ hr e0 (xZ j<|.ref a) (.cons rfl .nil)<|JS H hO hS) λr s' h=>?_
  cases r with
  |error e=>show(Gc H e s' h).elim
  |ok fl=>
   cases fl with
   |next=>show False.elim h
   |brk=>show False.elim h
   |cont=>show False.elim h
   |ret u=>
    obtain⟨v,H',os,bare,un,IL,r',q⟩:=h;have q':v=.bl true:=q;subst q';obtain rfl:u=fF true:=r';refine⟨rfl,OldK.of_keep λb o e=>?_,os,bare⟩
    cases q:H b with
    |none=>show un.keep b o e q (by intro z;show absurd (show b∈([]:List Addr) from z)<|by simp) (by simp)
    |some u=>
     rcases hO b with z|⟨ob,xs,z⟩
     .rw[q]at z;cases z
     .have z2:=un.frzs b ob _ z;obtain⟨e1,_⟩:=hok b _ z;obtain⟨e2,_⟩:=IL b _ z2;rw[e]at e1;cases e1;show e2
 cases hk:K.lookup a with
 |some o=>
  -- the script is one of the module's own objects
  have e:=KX a o hk;rw[ha]at e;cases e
  refine J (λ_=>none) (λ_=>.inl rfl) (.inr ⟨_,vs.toArray,_,hk,rfl,rfl,rfl,by rw[sA,Ic];show hl,‹rv›⟩) (λb u z=>by have U:(none:Option HO)>u:=z;cases U) (λb z=>absurd rfl z) λz=>absurd rfl z
 |none=>
  refine J (λb=>if b=a then some (.frz { cls:=.type "list",data:=.seq vs.toArray }<|.lst<|ns.map V.int) else none) (λb=>?_) (.inl<|.inr ⟨{ cls:=.type "list",data:=.seq vs.toArray },if_pos rfl⟩) (λb u z=>?_) (λb z=>?_) λ_=>hk
  .by_cases hb:b=a
   .show .inr ⟨_,_,if_pos hb⟩
   .show .inl<|if_neg hb
  .by_cases hb:b=a
   .have U:=(if_pos hb).symm.trans z;cases U;subst hb;show⟨ha,by rw[iA];show hl,vs,_,rv,ha⟩
   .have U:=(if_neg hb).symm.trans z;cases U
  .by_cases hb:b=a
   .show hb
   .show absurd (if_neg hb) z
end L2
namespace L2
open PySem PySem.Spec PyProof.Rows
theorem zM7{l:MJ}{XP:(Str->Option Value)->Heap->Prop}{J:World->Heap->Prop}{d:Tz}{K:Params->Fg}{CX:World->wQ}{sp:World->Sp}(hn:l.most>n)(w8:n<=sizeLine)(S:d.params.defaults=[])(hr:IF k bL)(hY:∀(w:World)(h:Heap),J w h->(K w.params).In h) (F:∀(w:World)(mg:gF)(fa:Addr)(h:Heap),(K w.params).In h->h.Ns NC mg->mg d.name>.ref fa ->
   ∃fd:FuncData,(∀(s:Shared)(u:Value),dN s fd ⟨[u],[]⟩ [(x,u)]) /\
    ∀base:Heap,(K w.params).In base->base.Ns NC mg->KI l.prog w (K w.params) mg base (CX w) k fa fd [x] (sp w)) (JS:∀(w:World)(H:Hp)(a:Addr)(ns:List Int),ns.length<=n->hU H->MF (K w.params) H a (ns.map V.int)->sp w [.ref a] H (λv _=>v=.bl true) λ_ _ _=>False) (O:∀(w:World)(H:Hp)(s:Shared)(e:Value)(s':Shared),CX w [] H s (λ_ _ _=>False) e s'->False) :
  YK q loose XP J l.row.toRowW d [] (λf vs=>aL f vs):=by
 refine Att.attach_call hn S λw s₀ mC mg mb fa o pm cd doc a vs ns G Y ho hd uM U Z z j hg=>?_
 have I:=hY w _ Y;obtain⟨fd,hb,hF⟩:=F w mg fa _ I G.T.g U;show zPe I G.T.g G.T.b G.T.builtins G.T.nolimit hg Z z (vA j w8) hr hF hb (λH hO hS=>JS w H a ns j hO hS) λH e s'=>O w H mC e s'
end L2
namespace L2
open PySem PySem.Spec PyProof.Rows
abbrev EI:wQ:=λ_ _ _ _ _ _=>False
abbrev E0:XK:=λ_ _ _=>False
theorem QX:vO EI X E0:=λ_ _ _ _ _ _ _ h=>h.elim
structure nN(K:Fg)(x qual:Str)(st:Stmt)(f:Addr)(fd:FuncData):Prop where
 ex:∃(oc:Value)(od:Option Addr)(kV doc pm:Value)(an:Option Addr)(rC ct:Value)(RP:Array (Option Value)),
  fd=FD x qual (GV st) (yF st) (zI st) .none kV doc pm an rC ct/\K.lookup f>⟨oc,od,.func fd,RP⟩/\KF K rC qual=true
 kp:pB K (.ref f)=true
section
variable {P:Program}{w:World}{K:Fg}{mg:gF}{base:Heap}
theorem nN.ok{x qual:Str}{st:Stmt}{f:Addr}{fd:FuncData}{N ps:List Str}{k:Nat}{sp:Sp}(F:nN K x qual st f fd)(S:zU N ps (zI st))(len:∀vs H Q E,sp vs H Q E->vs.length=ps.length)
  (I:∀(j:Value)(A:Around)(outer:List Env)(s:Shared)(H:Hp)(vs:List V)(Q:VK)(E:XK),IF k (A.deeper<|envOfC qual (zI st) s.heap.objs.size f j)->sp vs H Q E ->
   ∃t,aM (QL EI P w K mg base N qual (zI st) f j A outer s H E).nox (yF st) t/\t { nx:=λ_ H'=>Q .non H',rt:=Q } (fM N vs) H):KI P w K mg base EI (k+1) f fd ps sp:=by
 obtain⟨Z,od,kV,z,pm,Y,j,ct,U,rfl,J,O⟩:=F.ex;refine Cb J O S len λA outer s H vs Q E hr JS=>?_
 obtain⟨t,h,q⟩:=I j A outer s H vs Q E hr JS;show⟨t,h.nox,q⟩
theorem nN.binds{x qual:Str}{st:Stmt}{f:Addr}{fd:FuncData}{ps:List Str}(F:nN K x qual st f fd)
  (h:∀(kV j pm:Value)(z:Option Addr)(I ct:Value)(us:List Value),us.length=ps.length->bindArgs (FD x qual (GV st) (yF st) (zI st) .none kV j pm z I ct) ⟨us,[]⟩=pure (ps.zip us)):OL K fd ps []:=by
 obtain⟨S,U,kV,j,pm,z,I,ct,J,rfl,O,Y⟩:=F.ex;show .all<|h kV j pm z I ct
theorem zRG{x qual:Str}{st:Stmt}{f:Addr}{O:Value}{S I:Option Addr}{J:Array (Option Value)}{kV j pm z ct:Value}(l:K.lookup f>⟨O,S,.func<|FD x qual (GV st) (yF st) (zI st) .none kV j pm I z ct,J⟩)
  (c:KF K z qual=true) (k:pB K (.ref f)=true):nN K x qual st f (FD x qual (GV st) (yF st) (zI st) .none kV j pm I z ct):=⟨⟨O,S,kV,j,pm,I,z,ct,J,rfl,l,c⟩,k⟩
end
theorem gS{A:Around}(hr:IF k A):A.units+1<cLine:=IE (Nat.add_le_add_left (by decide:1<=64) _) hr.units
theorem zM8(h:n<=1000):n<sizeLine:=IE h 02
section
variable {X:Cx}
theorem pv(i:Nat)(j:X.N[i]?>x:=by rfl)(hv:Dv X.env.scope x:=by first|show Or.inl rfl|show Or.inr (Or.inl rfl)|show Or.inr (Or.inr rfl))(hd:(x==("__debug__" : Str))=false:=by decide)(z:(x==("__classdict__" : Str))=false:=by decide):PE X (.Name x pos) (RG i):=zUs j hv hd z
end
def zh(H H':Hp):Prop:=∀b o,H b>o->H' b>o
theorem zh.refl(H:Hp):zh H H:=λ_ _ h=>h
theorem zh.trans(a:zh H H1)(b:zh H1 H2):zh H H2:=λc o h=>b c o<|a c o h
theorem zh.free(e:zh H H')(h:H' l=FW):H l=FW:=by
 cases q:H l with
 |none=>rfl
 |some o=>
  rw[e l o q]at h;cases h
theorem zh.seq{K:Fg}{H H':Hp}{a:Addr}{xs:List V}(e:zh H H')(h:MF K H a xs):MF K H' a xs:=by
 rcases h with(h|⟨o,h⟩)|h
 .show .inl<|.inl<|e _ _ h
 .show .inl<|.inr ⟨o,e _ _ h⟩
 .show .inr h
end L2
namespace L2
open PySem PySem.Spec PyProof.Rows
section
variable {κ:Type}[DecidableEq κ]
end
end L2
namespace RD
open PySem PySem.Spec PyProof.Rows L2
abbrev oG(X:Cx)(e:Expr)(r:List Expr):Prop:=starEach (e::r) X.env=(false,eval e X.env)::starEach r X.env
abbrev WH(X:Cx)(p:Pos)(l:List Expr):Prop:=(backTo p<|starEach l X.env).any (·.1)=false
abbrev SQ(X:Cx)(p:Pos)(l:List Expr):Prop:=((backTo p<|starEach l X.env).all (λx=>!x.1)&&(backToKw p<|keywordEach [] X.env).all (λx=>x.1.isSome)&&decide (l.length+([]:List UK).length+(if ([]:List UK).isEmpty then 0 else 1)<30))=true
abbrev SN(X:Cx)(x:Str):Prop:=X.fn x=true\/X.env.scope.names.lookup x>.local
abbrev bM(X:Cx)(o:Expr)(f:Str):Prop:=QF o f X.env (eval o X.env)=eval o X.env
abbrev ZP(p q:Pos):Prop:=(p.endLine==q.line)=true
abbrev BM(x:Str):Prop:=(x==("__debug__" : Str))=false
abbrev PK(X:Cx)(e:Expr)(o:Option Expr)(p:Pos):Prop:=ZE e o p.line X.env=pure false
inductive D where
 |non|bl (b:Bool)|int (i:Int)|str (x:Str)|tup (xs:List D)|lst (xs:List D)
section
variable (K:Fg)(G:Hp)
mutual
def Rep:D->V->Prop
 |.non,v=>v=.non
 |.bl b,v=>v=.bl b
 |.int i,v=>v=.int i
 |.str x,v=>v=.str x
 |.tup ds,v=>∃a vs,v=.ref a/\G a>.tup vs/\HA ds vs
 |.lst ds,v=>∃a vs,v=.ref a/\MF K G a vs/\HA ds vs
def HA:List D->List V->Prop
 | [],vs=>vs=[]
 |d::ds,vs=>∃v r,vs=v::r/\Rep d v/\HA ds r
end
end
theorem yf{K:Fg}{H H':Hp}{a:Addr}{xs:List V}(e:zh H H')(h:aI K H a xs):aI K H' a xs:=by
 rcases h with(h|⟨o,h⟩)|h
 .show .inl<|.inl<|e _ _ h
 .show .inl<|.inr ⟨o,e _ _ h⟩
 .show .inr h
mutual
theorem Rep.mono{K:Fg}{G G':Hp}(s:zh G G'):∀(d:D)(v:V),Rep K G d v->Rep K G' d v
 |.non,_,h=>by simpa[Rep] using h
 |.bl _,_,h=>by simpa[Rep] using h
 |.int _,_,h=>by simpa[Rep] using h
 |.str _,_,h=>by simpa[Rep] using h
 |.tup ds,_,h=>by
  dsimp[Rep]at h ⊢;obtain⟨a,vs,e,q,r⟩:=h
  show⟨a,vs,e,s _ _ q,HA.mono s ds vs r⟩
 |.lst ds,_,h=>by
  dsimp[Rep]at h ⊢;obtain⟨a,vs,e,q,r⟩:=h;show⟨a,vs,e,s.seq q,HA.mono s ds vs r⟩
theorem HA.mono{K:Fg}{G G':Hp}(s:zh G G'):∀(ds:List D)(vs:List V),HA K G ds vs->HA K G' ds vs
 | [],_,h=>by simpa[HA] using h
 |d::ds,_,h=>by
  dsimp[HA]at h ⊢;obtain⟨v,r,e,a,b⟩:=h;show⟨v,r,e,Rep.mono s d v a,HA.mono s ds r b⟩
end
section
variable {K:Fg}{G:Hp}
theorem bQ:Rep K G .non v↔v=.non:=by simp[Rep]
theorem yc{b:Bool}{v:V}:Rep K G (.bl b) v↔v=.bl b:=by simp[Rep]
theorem zv:Rep K G (.int i) v↔v=.int i:=by simp[Rep]
theorem qu:Rep K G (.str x) v↔v=.str x:=by simp[Rep]
theorem LR:Rep K G (.tup ds) v↔∃a vs,v=.ref a/\G a>.tup vs/\HA K G ds vs:=by dsimp[Rep]
theorem XS(h:Rep K G (.tup ds) v):∃a vs,v=.ref a/\aI K G a vs/\HA K G ds vs:=let ⟨a,vs,e,q,r⟩:=LR.mp h;⟨a,vs,e,aI.of q,r⟩
theorem cQ:Rep K G (.lst ds) v↔∃a vs,v=.ref a/\MF K G a vs/\HA K G ds vs:=by dsimp[Rep]
theorem yB:HA K G [] vs↔vs=[]:=by dsimp[HA]
theorem zV:HA K G (d::ds) vs↔∃v r,vs=v::r/\Rep K G d v/\HA K G ds r:=by dsimp[HA]
theorem HA.nil:HA K G [] []:=yB.mpr rfl
theorem HA.cons(h:Rep K G d v)(t:HA K G ds vs):HA K G (d::ds) (v::vs):=zV.mpr ⟨v,vs,rfl,h,t⟩
theorem HA.inv(h:HA K G (d::ds) (v::vs)):Rep K G d v/\HA K G ds vs:=by
 obtain⟨j,r,e,a,b⟩:=zV.mp h;cases e;show⟨a,b⟩
theorem HA.length:∀{ds:List D}{vs:List V},HA K G ds vs->ds.length=vs.length
 | [],vs,h=>by rw[yB.mp h];rfl
 |d::ds,vs,h=>by
  obtain⟨v,r,rfl,_,t⟩:=zV.mp h;rw[kA,kA,HA.length t]
theorem HA.get:∀{ds:List D}{vs:List V}{i:Nat}{d:D},HA K G ds vs->ds[i]?>d->∃v,vs[i]?>v/\Rep K G d v
 | [],_,_,_,_,e=>by simp at e
 |d::ds,vs,0,d',h,e=>by
  obtain⟨v,r,rfl,a,_⟩:=zV.mp h;simp at e;subst e
  show⟨v,rfl,a⟩
 |d::ds,vs,i+1,d',h,e=>by
  obtain⟨v,r,rfl,_,t⟩:=zV.mp h;obtain⟨I,j,z⟩:=HA.get (i:=i) t ‹e›;show⟨I,‹j›,z⟩
theorem HA.got{ds:List D}{vs:List V}{i:Nat}(h:HA K G ds vs)(e:vs[i]?>v):∃d,ds[i]?>d/\Rep K G d v:=by
 have z:i<ds.length:=by rw[h.length];show(BA.mp e).1
 obtain⟨I,j,r⟩:=h.get (i:=i) (d:=ds[i]) (by simp[z]);rw[e]at j;cases j;show⟨ds[i],by simp[z],r⟩
theorem HA.append:∀{ds es:List D}{vs us:List V},HA K G ds vs->HA K G es us->HA K G (ds++es) (vs++us)
 | [],_,vs,_,h,t=>by rw[yB.mp h];show t
 |d::ds,es,vs,us,h,t=>by
  obtain⟨v,r,rfl,a,b⟩:=zV.mp h;show HA.cons a<|HA.append b t
theorem HA.take:∀{ds:List D}{vs:List V}(n:Nat),HA K G ds vs->HA K G (ds.take n) (vs.take n)
 |_,_,0,_=>‹HA.nil›
 | [],vs,n+1,h=>by rw[yB.mp h];simpa using HA.nil
 |d::ds,vs,n+1,h=>by
  obtain⟨v,r,rfl,a,b⟩:=zV.mp h;show HA.cons a<|HA.take n b
theorem HA.drop:∀{ds:List D}{vs:List V}(n:Nat),HA K G ds vs->HA K G (ds.drop n) (vs.drop n)
 |_,_,0,h=>‹h›
 | [],vs,n+1,h=>by rw[yB.mp h];simpa using HA.nil
 |d::ds,vs,n+1,h=>by
  obtain⟨v,r,rfl,a,b⟩:=zV.mp h;show HA.drop n b
theorem HA.set:∀{ds:List D}{vs:List V}(i:Nat){d:D}{v:V},HA K G ds vs->Rep K G d v->HA K G (ds.set i d) (vs.set i v)
 | [],vs,_,_,_,h,_=>by rw[yB.mp h];simpa using HA.nil
 |d::ds,vs,0,d',v',h,q=>by
  obtain⟨v,r,rfl,a,b⟩:=zV.mp h
  show HA.cons q b
 |d::ds,vs,i+1,d',v',h,q=>by
  obtain⟨v,r,rfl,a,b⟩:=zV.mp h;show HA.cons a<|HA.set i b q
theorem HA.dropLast:∀{ds:List D}{vs:List V},HA K G ds vs->HA K G ds.dropLast vs.dropLast:=λ{ds vs} h=>by
 rw[MN,MN,h.length];show h.take _
theorem HA.ints:∀(ns:List Int),HA K G (ns.map D.int) (ns.map V.int)
 | []=>HA.nil
 |n::ns=>HA.cons (zv.mpr rfl)<|HA.ints ns
end
structure zf(G H G' H':Hp):Prop where
 g:zh G G'
 h:zh H H'
 s:zh G' H'
 f:∀b o,G' b>o->G b=none->H b=none
theorem zf.refl(s:zh G H):zf G H G H:=⟨zh.refl _,zh.refl _,s,λb o e n=>by rw[n]at e;cases e⟩
theorem zf.trans{G H j H1 z H2:Hp}(a:zf G H j H1)(b:zf j H1 z H2):zf G H z H2:=
 ⟨a.g.trans b.g,a.h.trans b.h,b.s,λc o e n=>by
  cases q:j c with
  |some o'=>show a.f c o' q n
  |none=>show a.h.free<|b.f c o e q⟩
theorem yM(n:H p=none):zh H (upd H p o):=λb u e=>by rw[upd_ne<|yV e n];show e
theorem zf.new{G H:Hp}(s:zh G H){p:Addr}{o:HO}(n:H p=none):zf G H (upd G p o) (upd H p o):=
 ⟨yM<|s.free n,yM n,λb u e=>by
  by_cases hb:b=p
  .subst hb;rw[zL]at e ⊢;show e
  .rw[upd_ne hb]at e ⊢;show s b u e,λb u e k=>by
  by_cases hb:b=p
  .subst hb;show n
  .rw[upd_ne hb]at e;rw[e]at k;cases k⟩
theorem zf.newH(s:zh G H)(n:H p=none):zf G H G (upd H p o):=
 ⟨zh.refl _,yM n,s.trans<|yM n,λb u e k=>by rw[e]at k;cases k⟩
inductive Fd where
 |l (xs:List D)|m (kvs:List (kC×D))|t (kvs:List (List kC×D))|ml (kvs:List (kC×List D))|tl (kvs:List (List kC×List D))
inductive Fl where
 |v (d:D)|f (x:Fd)
inductive Ob where
 |p (f:Fd)|ins (C:Addr) (fs:List (Str×Fl))
def pG(K:Fg)(G:Hp)(kvs:List (kC×D))(ws:List (kC×V)):Prop:=kvs.map (·.1)=ws.map (·.1)/\HA K G (kvs.map (·.2)) (ws.map (·.2))
theorem pG.mono{K:Fg}{G G':Hp}(s:zh G G'){kvs:List (kC×D)}{ws:List (kC×V)}(h:pG K G kvs ws):pG K G' kvs ws:=⟨h.1,HA.mono s _ _ h.2⟩
noncomputable def Sx:V->Option Addr
 |.ref a=>some a
 |_=>none
theorem zPf(h:Sx v>a):v=.ref a:=by
 cases v<;>first|(cases h;done)|(dsimp[Sx,DF]at h;rw[h])
def DK{κ:Type}(ws:List (κ×V)):List Addr:=ws.filterMap λq=>Sx q.2
theorem qY{κ:Type}{ws:List (κ×V)}:a∈DK ws↔.ref a∈ws.map (·.2):=by
 unfold DK;rw[kB,LA];constructor
 .rintro⟨q,h,e⟩;show⟨q,h,zPf e⟩
 .rintro⟨q,h,e⟩;show⟨q,h,by rw[e];rfl⟩
def D8:Option HO->List Addr
 |some (.dK ws)=>DK ws
 |some (.dT ws)=>DK ws
 |_=>[]
def OF(H:Hp):Fd->Addr->List Addr
 |.l _,a=>[a]
 |.m _,a=>[a]
 |.t _,a=>[a]
 |.ml _,a=>a::D8 (H a)
 |.tl _,a=>a::D8 (H a)
def iI(H:Hp):Fl->V->List Addr
 |.f x,.ref a=>OF H x a
 |_,_=>[]
def wI(H:Hp)(fs:List (Str×Fl))(ws:List (Str×V)):List Addr:=fs.flatMap λq=>match ws.lookup q.1 with
 |some u=>iI H q.2 u
 |none=>[]
def YW(H:Hp)(fs:List (Str×Fl)):Option HO->List Addr
 |some (.ins _ dx ws)=>dx::wI H fs ws
 |_=>[]
def YE(H:Hp):Ob->Addr->List Addr
 |.p f,a=>OF H f a
 |.ins _ fs,a=>a::YW H fs (H a)
section
variable (K:Fg)(G H:Hp)
def yN:List (List D)->List V->Prop
 | [],vs=>vs=[]
 |xs::r,vs=>∃b us t,vs=.ref b::t/\H b>.lst us/\HA K G xs us/\yN r t
def RL:Fd->Addr->Prop
 |.l xs,a=>∃vs,H a>.lst vs/\HA K G xs vs
 |.m kvs,a=>∃ws,H a>.dK ws/\pG K G kvs ws
 |.t kvs,a=>∃ws,H a>.dT ws/\kvs.map (·.1)=ws.map (·.1)/\HA K G (kvs.map (·.2)) (ws.map (·.2))
 |.ml kvs,a=>∃ws,H a>.dK ws/\kvs.map (·.1)=ws.map (·.1)/\yN K G H (kvs.map (·.2)) (ws.map (·.2))
 |.tl kvs,a=>∃ws,H a>.dT ws/\kvs.map (·.1)=ws.map (·.1)/\yN K G H (kvs.map (·.2)) (ws.map (·.2))
def fP:Fl->V->Prop
 |.v d,u=>Rep K G d u
 |.f x,u=>∃a,u=.ref a/\RL K G H x a
def gQ:Ob->Addr->Prop
 |.p f,a=>RL K G H f a
 |.ins C fs,a=>∃dx ws,H a>.ins C dx ws/\H dx>.own a/\(∀q∈fs,∃u,ws.lookup q.1>u/\fP K G H q.2 u)/\(∀x,fs.lookup x=none->ws.lookup x=none)/\ws.length<=fs.length
end
section
variable {K:Fg}{G G' H H':Hp}
theorem yN.there:∀{xs:List (List D)}{vs:List V},yN K G H xs vs->∀b,.ref b∈vs->∃o,H b>o
 | [],_,h,b,m=>by dsimp[yN]at h;subst h;cases m
 |x::xs,_,h,b,m=>by
  dsimp[yN]at h;obtain⟨c,us,t,rfl,e,r,l⟩:=h;rcases lA.mp m with z|m
  .cases z;show⟨_,e⟩
  .show yN.there l b m
theorem yN.same(g:zh G G'):∀{xs:List (List D)}{vs:List V},yN K G H xs vs->(∀b,.ref b∈vs->∀o,H b>o->H' b>o)->yN K G' H' xs vs
 | [],_,h,_=>by simpa only[yN] using h
 |x::xs,_,h,m=>by
  dsimp[yN]at h ⊢;obtain⟨c,us,t,rfl,e,r,l⟩:=h;show⟨c,us,t,rfl,m c (gA ..) _ e,HA.mono g _ _ r,yN.same g l λb z=>m b<|bA _ z⟩
theorem RL.head:a∈OF H f a:=by cases f<;>simp[OF]
theorem RL.there{f:Fd}{a:Addr}(h:RL K G H f a):∀c∈OF H f a,∃o,H c>o:=by
 intro c m
 cases f with
 |l xs=>obtain⟨vs,e,_⟩:=h;dsimp[OF,jA]at m;subst m;show⟨_,e⟩
 |m xs=>obtain⟨vs,e,_⟩:=h;dsimp[OF,jA]at m;subst m;show⟨_,e⟩
 |t xs=>obtain⟨vs,e,_⟩:=h;dsimp[OF,jA]at m;subst m;show⟨_,e⟩
 |ml xs=>
  obtain⟨ws,e,_,l⟩:=h;rcases lA.mp m with z|m
  .subst z;show⟨_,e⟩
  .rw[e]at m;show l.there c<|qY.mp m
 |tl xs=>
  obtain⟨ws,e,_,l⟩:=h;rcases lA.mp m with z|m
  .subst z;show⟨_,e⟩
  .rw[e]at m;show l.there c<|qY.mp m
theorem RL.same{f:Fd}{a:Addr}(g:zh G G')(h:RL K G H f a)(k:∀c∈OF H f a,∀o,H c>o->H' c>o):RL K G' H' f a/\OF H' f a=OF H f a:=by
 cases f with
 |l xs=>obtain⟨vs,e,r⟩:=h;show⟨⟨vs,k a RL.head _ e,HA.mono g _ _ r⟩,rfl⟩
 |m xs=>obtain⟨vs,e,r⟩:=h;show⟨⟨vs,k a RL.head _ e,r.mono g⟩,rfl⟩
 |t xs=>obtain⟨vs,e,q,r⟩:=h;show⟨⟨vs,k a RL.head _ e,q,HA.mono g _ _ r⟩,rfl⟩
 |ml xs=>
  obtain⟨ws,e,q,l⟩:=h;have e':=k a RL.head _ e;refine⟨⟨ws,e',q,l.same g λb m o z=>k b ?_ o z⟩,by dsimp[OF];rw[e,e']⟩
  dsimp[OF];rw[e];show bA _<|qY.mpr m
 |tl xs=>
  obtain⟨ws,e,q,l⟩:=h;have e':=k a RL.head _ e;refine⟨⟨ws,e',q,l.same g λb m o z=>k b ?_ o z⟩,by dsimp[OF];rw[e,e']⟩;dsimp[OF];rw[e];show bA _<|qY.mpr m
theorem fP.there{f:Fl}{u:V}(h:fP K G H f u):∀c∈iI H f u,∃o,H c>o:=by
 intro c m
 cases f with
 |v d=>cases u<;>cases m
 |f x=>obtain⟨a,rfl,r⟩:=h;show r.there c m
theorem fP.same{f:Fl}{u:V}(g:zh G G')(h:fP K G H f u)(k:∀c∈iI H f u,∀o,H c>o->H' c>o):fP K G' H' f u/\iI H' f u=iI H f u:=by
 cases f with
 |v d=>show⟨Rep.mono g _ _ h,by cases u<;>rfl⟩
 |f x=>obtain⟨a,rfl,r⟩:=h;show⟨⟨a,rfl,(r.same g k).1⟩,(r.same g k).2⟩
theorem tX{ws:List (Str×V)}{q:Str×Fl}(hq:q∈fs)(j:ws.lookup q.1>u)(hc:c∈iI H q.2 u):c∈wI H fs ws:=
 VC.mpr ⟨q,hq,by rw[j];show hc⟩
theorem Os{ws:List (Str×V)}:∀(k:∀q∈fs,∃u,ws.lookup q.1>u/\iI H' q.2 u=iI H q.2 u),wI H' fs ws=wI H fs ws:=by
 induction fs with
 |nil=>intro _;rfl
 |cons q fs ih=>
  intro k;obtain⟨u,e,z⟩:=k q<|gA ..;have:=ih λp m=>k p<|bA _ m
  unfold wI at this|-;rw[dB,dB,this,e];dsimp[z]
theorem gQ.head:a∈YE H o a:=by
 cases o with
 |p f=>show RL.head
 |ins C fs=>show gA ..
theorem gQ.there{o:Ob}{a:Addr}(h:gQ K G H o a):∀c∈YE H o a,∃u,H c>u:=by
 cases o with
 |p f=>show RL.there h
 |ins C fs=>
  obtain⟨dx,ws,j,I,e3,_⟩:=h;intro c m;rcases lA.mp m with z|m
  .subst z;show⟨_,j⟩
  .rw[j]at m;rcases lA.mp m with z|m
   .subst z;show⟨_,I⟩
   .obtain⟨q,hq,m⟩:=VC.mp m;obtain⟨u,e,r⟩:=e3 q hq;rw[e]at m;show r.there c m
theorem gQ.same{o:Ob}{a:Addr}(g:zh G G')(h:gQ K G H o a)(k:∀c∈YE H o a,∀u,H c>u->H' c>u):gQ K G' H' o a/\YE H' o a=YE H o a:=by
 cases o with
 |p f=>show RL.same g h k
 |ins C fs=>
  obtain⟨dx,ws,j,J,e3,O⟩:=h;have I:=k a gQ.head _ j;have sub:∀c∈dx::wI H fs ws,∀u,H c>u->H' c>u:=λc m=>k c (by dsimp[YE];rw[j];show bA _ m)
  have fl:∀q∈fs,∃u,ws.lookup q.1>u/\fP K G' H' q.2 u/\iI H' q.2 u=iI H q.2 u:=λq hq=>by
   obtain⟨u,e,r⟩:=e3 q hq;show⟨u,e,r.same g λc m=>sub c<|bA _<|tX hq e m⟩
  refine⟨⟨dx,ws,I,sub dx (gA ..) _ J,λq hq=>?_,O⟩,?_⟩
  .obtain⟨u,e,r,_⟩:=fl q hq;show⟨u,e,r⟩
  .dsimp[YE];rw[j,I];dsimp[YW];rw[Os λq hq=>let ⟨u,e,_,z⟩:=fl q hq;⟨u,e,z⟩]
end
inductive Sl where
 |un|v (d:D)|l (xs:List D)|m (kvs:List (kC×D))
  |o (c:Option Addr) (x:Ob)|b (c:Addr) (x:Ob)
noncomputable def Sl.isOwn:Sl->Bool
 |.l _=>true
 |.m _=>true
 |.o _ _=>true
 |_=>false
noncomputable def Sl.isPl:Sl->Bool
 |.l _=>true
 |.m _=>true
 |_=>false
noncomputable def Sl.isObj:Sl->Bool
 |.l _=>true
 |.m _=>true
 |.o _ _=>true
 |.b _ _=>true
 |_=>false
theorem Sl.own_of_pl{s:Sl}(h:s.isPl=true):s.isOwn=true:=by cases s<;>first|rfl|cases h
theorem Sl.obj_of_own{s:Sl}(h:s.isOwn=true):s.isObj=true:=by cases s<;>first|rfl|cases h
abbrev lB:=List Sl
abbrev dD:=lB->Option (List D)
abbrev dC:=lB->Option D
abbrev iF:=lB->Option Bool
def JE(H:Hp):Sl->Addr->List Addr
 |.l _,a=>[a]
 |.m _,a=>[a]
 |.o _ x,a=>YE H x a
 |.b _ x,a=>YE H x a
 |_,_=>[]
def bO(K:Fg)(G H:Hp):Sl->Addr->Prop
 |.l xs,a=>∃vs,H a>.lst vs/\HA K G xs vs
 |.m kvs,a=>∃ws,H a>.dK ws/\pG K G kvs ws
 |.o c x,a=>(gQ K G H x a/\(YE H x a).Nodup)/\∀c',c>c'->a=c'
 |.b c x,a=>(gQ K G H x a/\(YE H x a).Nodup)/\a=c
 |_,_=>False
section
variable {K:Fg}{G G' H H':Hp}{s:Sl}{a:Addr}
theorem d6(h:s.isPl=true):JE H s a=[a]:=by cases s<;>first|rfl|cases h
theorem MR(h:s.isObj=true):a∈JE H s a:=by
 cases s<;>first|(cases h;done)|show jA.mpr rfl|show gQ.head
theorem bO.there(h:bO K G H s a):∀c∈JE H s a,∃u,H c>u:=by
 cases s with
 |un=>cases h
 |v d=>cases h
 |l xs=>obtain⟨vs,e,_⟩:=h;intro c m;cases jA.mp m;show⟨_,e⟩
 |m xs=>obtain⟨vs,e,_⟩:=h;intro c m;cases jA.mp m;show⟨_,e⟩
 |o c x=>show h.1.1.there
 |b c x=>show h.1.1.there
theorem bO.same(g:zh G G')(h:bO K G H s a)(k:∀c∈JE H s a,∀u,H c>u->H' c>u):bO K G' H' s a/\JE H' s a=JE H s a:=by
 cases s with
 |un=>cases h
 |v d=>cases h
 |l xs=>obtain⟨vs,e,r⟩:=h;show⟨⟨vs,k a (jA.mpr rfl) _ e,HA.mono g _ _ r⟩,rfl⟩
 |m xs=>obtain⟨vs,e,r⟩:=h;show⟨⟨vs,k a (jA.mpr rfl) _ e,r.mono g⟩,rfl⟩
 |o c x=>have q:=h.1.1.same g k;show⟨⟨⟨q.1,by rw[q.2];show h.1.2⟩,h.2⟩,q.2⟩
 |b c x=>have q:=h.1.1.same g k;show⟨⟨⟨q.1,by rw[q.2];show h.1.2⟩,h.2⟩,q.2⟩
end
structure Er(K:Fg)(G H:Hp)(ρ:lB)(σ:L2.St):Prop where
 len:ρ.length=σ.length
 val:∀(i:Nat)(d:D),ρ[i]?>.v d->∃v,σ[i]?>some v/\Rep K G d v
 slot:∀(i:Nat)(s:Sl),ρ[i]?>s->s.isObj=true->∃a,σ[i]?>(some<|.ref a)/\bO K G H s a/\∀c∈JE H s a,G c=none
 sep:∀(i j:Nat)(s t:Sl)(a b:Addr),i≠j->ρ[i]?>s->s.isOwn=true->ρ[j]?>t->t.isObj=true->σ[i]?>(some<|.ref a)->σ[j]?>(some<|.ref b)->∀c∈JE H s a,c∉JE H t b
section
variable {K:Fg}{G H G' H':Hp}{ρ:lB}{σ:L2.St}
theorem Er.own(e:Er K G H ρ σ)(i:Nat)(xs:List D)(h:ρ[i]?>.l xs):∃a vs,σ[i]?>(some<|.ref a)/\G a=none/\H a>.lst vs/\HA K G xs vs:=by
 obtain⟨a,h1,⟨vs,h2,h3⟩,j⟩:=e.slot i _ h rfl;show⟨a,vs,h1,j a<|MR rfl,h2,h3⟩
theorem Er.dic(e:Er K G H ρ σ)(i:Nat)(kvs:List (kC×D))(h:ρ[i]?>.m kvs):∃a ws,σ[i]?>(some<|.ref a)/\G a=none/\H a>.dK ws/\pG K G kvs ws:=by
 obtain⟨a,h1,⟨vs,h2,h3⟩,j⟩:=e.slot i _ h rfl;show⟨a,vs,h1,j a<|MR rfl,h2,h3⟩
theorem Er.ownAt(e:Er K G H ρ σ){i:Nat}{s:Sl}(h:ρ[i]?>s)(o:s.isOwn=true):∃a u,σ[i]?>(some<|.ref a)/\G a=none/\H a>u:=by
 obtain⟨a,h1,h2,h3⟩:=e.slot i s h<|Sl.obj_of_own o;obtain⟨u,q⟩:=h2.there a<|MR<|Sl.obj_of_own o;show⟨a,u,h1,h3 a<|MR<|Sl.obj_of_own o,q⟩
theorem Er.hop(e:Er K G H ρ σ)(g:zh G G')(k:∀(i:Nat)(s:Sl)(a:Addr),ρ[i]?>s->s.isObj=true->σ[i]?>(some<|.ref a)->∀c∈JE H s a,(∀u,H c>u->H' c>u)/\G' c=none):Er K G' H' ρ σ:=by
 have all:∀(i:Nat)(s:Sl)(a:Addr),ρ[i]?>s->s.isObj=true->σ[i]?>(some<|.ref a)->bO K G' H' s a/\JE H' s a=JE H s a:=λi s a h o q=>by
  obtain⟨O,h1,h2,_⟩:=e.slot i s h o;rw[q]at h1;cases h1;show h2.same g λc m=>(k i s a h o q c m).1
 refine⟨e.len,λi d h=>let ⟨v,a,b⟩:=e.val i d h;⟨v,a,Rep.mono g d v b⟩,λi s h o=>?_,λi j s t a b ne h1 z h2 I q1 J=>?_⟩
 .obtain⟨a,h1,h2,h3⟩:=e.slot i s h o;show⟨a,h1,(all i s a h o h1).1,by rw[(all i s a h o h1).2];showλc m=>(k i s a h o h1 c m).2⟩
 .rw[(all i s a h1 (Sl.obj_of_own z) q1).2,(all j t b h2 I J).2];show e.sep i j s t a b ne h1 z h2 I q1 J
theorem Er.there(e:Er K G H ρ σ){i:Nat}{s:Sl}{a:Addr}(h:ρ[i]?>s)(o:s.isObj=true)(q:σ[i]?>(some<|.ref a)){c:Addr}(m:c∈JE H s a):(∃u,H c>u)/\G c=none:=by
 obtain⟨j,h1,h2,h3⟩:=e.slot i s h o;rw[q]at h1;cases h1;show⟨h2.there c m,h3 c m⟩
theorem Er.step(e:Er K G H ρ σ)(t:zf G H G' H'):Er K G' H' ρ σ:=e.hop t.g λi s a h o q c m=>by
 obtain⟨⟨u,h1⟩,h2⟩:=e.there h o q m;refine⟨λu z=>t.h _ _ z,?_⟩
 cases z:G' c with
 |none=>rfl
 |some o=>have:=t.f c o z h2;rw[h1]at this;cases this
end
structure Bs(G0 H0 G H:Hp):Prop where
 gh:zh G H
 gg:zh G0 G
 hh:zh H0 H
 fr:∀b o,G b>o->G0 b=none->H0 b=none
theorem Bs.step{G0 H0 G H G' H':Hp}(b:Bs G0 H0 G H)(t:zf G H G' H'):Bs G0 H0 G' H':=
 ⟨t.s,b.gg.trans t.g,b.hh.trans t.h,λc o e n=>by
  cases q:G c with
  |some o'=>show b.fr c o' q n
  |none=>show b.hh.free<|t.f c o e q⟩
structure jD(K:Fg)(G0 H0 G H:Hp)(ρ:lB)(σ:L2.St):Prop where
 er:Er K G H ρ σ
 bs:Bs G0 H0 G H
 ows:∀(i:Nat)(s:Sl)(a:Addr),ρ[i]?>s->s.isOwn=true->σ[i]?>(some<|.ref a)->∀c∈JE H s a,H0 c=none
section
variable {K:Fg}{G0 H0 G H G' H':Hp}{ρ:lB}{σ:L2.St}
theorem jD.ow(s:jD K G0 H0 G H ρ σ)(i:Nat)(u:Sl)(a:Addr)(h:ρ[i]?>u)(o:u.isOwn=true)(q:σ[i]?>(some<|.ref a)):H0 a=none:=s.ows i u a h o q a<|MR<|Sl.obj_of_own o
theorem Er.fp(e:Er K G H ρ σ)(t:zh H H'){i:Nat}{u:Sl}{a:Addr}(h:ρ[i]?>u)(o:u.isObj=true)(q:σ[i]?>(some<|.ref a)):JE H' u a=JE H u a:=by
 obtain⟨j,h1,h2,_⟩:=e.slot i u h o;rw[q]at h1;cases h1;show(h2.same (zh.refl _) λc _ v z=>t _ _ z).2
theorem jD.step(s:jD K G0 H0 G H ρ σ)(t:zf G H G' H'):jD K G0 H0 G' H' ρ σ:=
 ⟨s.er.step t,s.bs.step t,λi u a h o q=>by rw[s.er.fp t.h h (Sl.obj_of_own o) q];show s.ows i u a h o q⟩
end
theorem zj{α:Type}{l:List α}{i j:Nat}{x y:α}(h:(l.set i x)[j]?>y):(j=i/\y=x/\i<l.length)\/(j≠i/\l[j]?>y):=by
 by_cases e:j=i
 .subst e
  have z:j<l.length:=by
   have:=(BA.mp h).1;simpa using this
  rw[ZA z]at h;cases h;show .inl ⟨rfl,rfl,z⟩
 .rw[RA<|Ne.symm e]at h;show .inr ⟨e,h⟩
section
variable {K:Fg}{G0 H0 G H G' H':Hp}{ρ:lB}{σ:L2.St}{i:Nat}
theorem jD.setV{d:D}{v:V}(s:jD K G0 H0 G H ρ σ)(r:Rep K G d v):jD K G0 H0 G H (ρ.set i<|.v d) (σ.set i<|some v) where
 bs:=s.bs
 er:={
  len:=‹s.er.len›
  val:=λj d' h=>by
   rcases zj h with⟨rfl,e,I⟩|⟨z,h⟩
   .cases e;show⟨v,ZA (by rw[<- s.er.len];show I),r⟩
   .rw[RA<|Ne.symm z];show s.er.val j d' h
  slot:=λj u h o=>by
   rcases zj h with⟨rfl,e,I⟩|⟨z,h⟩
   .subst e;cases o
   .rw[RA<|Ne.symm z];show s.er.slot j u h o
  sep:=λj k u t a b ne h1 J h2 O q1 S=>by
   rcases zj h1 with⟨rfl,e,_⟩|⟨z,h1⟩
   .subst e;cases J
   rcases zj h2 with⟨rfl,e,_⟩|⟨hk,h2⟩
   .subst e;cases O
   rw[RA<|Ne.symm z]at q1;rw[RA<|Ne.symm hk]at S;show s.er.sep j k u t a b ne h1 J h2 O q1 S }
 ows:=λj u a h o q=>by
  rcases zj h with⟨rfl,e,_⟩|⟨z,h⟩
  .subst e;cases o
  .rw[RA<|Ne.symm z]at q;show s.ows j u a h o q
theorem jD.setNew{a:Addr}{w:Sl}(s:jD K G0 H0 G H ρ σ)(t:zf G H G' H')(hw:w.isOwn=true)(hr:bO K G' H' w a)(Y:∀c∈JE H' w a,H c=none/\G' c=none):
  jD K G0 H0 G' H' (ρ.set i w) (σ.set i<|some<|.ref a):=by
 have s':=s.step t
 have O:∀{j:Nat}{u:Sl}{b c:Addr},ρ[j]?>u->u.isObj=true->σ[j]?>(some<|.ref b)->c∈JE H' u b->c∉JE H' w a:=λ{j u b c} h o q m z=>by
  rw[s.er.fp t.h h o q]at m;obtain⟨⟨x,e⟩,_⟩:=s.er.there h o q m;rw[(Y c z).1]at e;cases e
 refine⟨⟨‹s.er.len›,λj d' h=>?_,λj u h o=>?_,λj k u v b b' ne h1 o1 h2 o2 q1 J=>?_⟩,s'.bs,λj u b h o q=>?_⟩
 .rcases zj h with⟨rfl,e,_⟩|⟨I,h⟩
  .subst e;cases hw
  .rw[RA<|Ne.symm I];show s'.er.val j d' h
 .rcases zj h with⟨rfl,e,hi⟩|⟨I,h⟩
  .subst e;show⟨a,ZA (by rw[<- s.er.len];show hi),hr,λc m=>(Y c m).2⟩
  .rw[RA<|Ne.symm I];show s'.er.slot j u h o
 .rcases zj h1 with⟨ej,e,hi⟩|⟨I,Z⟩
  .rw[ej,ZA (by rw[<- s.er.len];show hi)]at q1;cases q1;subst e;rcases zj h2 with⟨U,_,_⟩|⟨hk,S⟩
   .show absurd (ej.trans U.symm) ne
   .rw[RA<|Ne.symm hk]at J
    showλc m z=>O S o2 J z m
  .rw[RA<|Ne.symm I]at q1;rcases zj h2 with⟨U,e,hi⟩|⟨hk,S⟩
   .rw[U,ZA (by rw[<- s.er.len];show hi)]at J;cases J;subst e
    showλc m z=>O Z (Sl.obj_of_own o1) q1 m z
   .rw[RA<|Ne.symm hk]at J;show s'.er.sep j k u v b b' ne Z o1 S o2 q1 J
 .rcases zj h with⟨rfl,e,hi⟩|⟨I,h⟩
  .rw[ZA (by rw[<- s.er.len];show hi)]at q;cases q;subst e
   showλc m=>s.bs.hh.free (Y c m).1
  .rw[RA<|Ne.symm I]at q;show s'.ows j u b h o q
theorem jD.setOwn{w:Sl}(s:jD K G0 H0 G H ρ σ)(t:zf G H G' H')(j:w.isPl=true)(J:H a=none)(z:G' a=none)(I:∀xs,w=.l xs->∃vs,H' a>.lst vs/\HA K G' xs vs)(hm:∀kvs,w=.m kvs->∃ws,H' a>.dK ws/\pG K G' kvs ws):
  jD K G0 H0 G' H' (ρ.set i w) (σ.set i<|some<|.ref a):=by
 refine s.setNew t (Sl.own_of_pl j) ?_ λc m=>?_
 .cases w with
  |l xs=>show I xs rfl
  |m xs=>show hm xs rfl
  |_=>cases j
 .rw[d6 j]at m;cases jA.mp m;show⟨J,z⟩
theorem jD.mutG{a:Addr}{u w:Sl}(s:jD K G0 H0 G H ρ σ)(hu:ρ[i]?>u)(ou:u.isOwn=true)(hw:w.isOwn=true)(ha:σ[i]?>(some<|.ref a))
  (hG:zh G G') (pZ:zh G' H') (hf:∀b o,G' b>o->G b=none->H b=none\/b∈JE H u a) (hH:∀b o,H b>o->b∉JE H u a->H' b>o)
  (hr:bO K G' H' w a) (hn:∀c∈JE H' w a,(c∈JE H u a\/H c=none)/\G' c=none):jD K G0 H0 G' H' (ρ.set i w) σ:=by
 have hi:i<ρ.length:=(BA.mp hu).1
 have off:∀{j:Nat}{I:Sl}{b c:Addr},j≠i->ρ[j]?>I->I.isObj=true->σ[j]?>(some<|.ref b)->c∈JE H I b->c∉JE H u a:=λ{j I b c} ne h o q m z=>
  s.er.sep i j u I a b (Ne.symm ne) hu ou h o ha q c z m
 have all:∀{j:Nat}{I:Sl}{b:Addr},j≠i->ρ[j]?>I->I.isObj=true->σ[j]?>(some<|.ref b)->(bO K G' H' I b/\JE H' I b=JE H I b)/\∀c∈JE H I b,G' c=none:=λ{j I b} ne h o q=>by
  obtain⟨b',h1,h2,h3⟩:=s.er.slot j I h o;rw[q]at h1;cases h1;refine⟨h2.same hG λc m v z=>hH c v z<|off ne h o q m,λc m=>?_⟩
  cases z:G' c with
  |none=>rfl
  |some x=>
   rcases hf c x z (h3 c m) with y|y
   .obtain⟨v,e⟩:=h2.there c m;rw[y]at e;cases e
   .show absurd y<|off ne h o q m
 have h0:∀c∈JE H u a,H0 c=none:=s.ows i u a hu ou ha;refine⟨⟨‹s.er.len›,λj d' h=>?_,λj v h o=>?_,λj k v O b b' ne h1 o1 h2 o2 q1 S=>?_⟩,⟨pZ,s.bs.gg.trans hG,λb x e=>?_,λb x e n=>?_⟩,λj v b h o q=>?_⟩
 .rcases zj h with⟨rfl,e,_⟩|⟨J,h⟩
  .subst e;cases hw
  .obtain⟨v,e1,e2⟩:=s.er.val j d' h;show⟨v,e1,Rep.mono hG _ _ e2⟩
 .rcases zj h with⟨rfl,e,_⟩|⟨J,h⟩
  .subst e;show⟨a,ha,hr,λc m=>(hn c m).2⟩
  .obtain⟨b,h1,_,_⟩:=s.er.slot j v h o;have q:=all J h o h1;show⟨b,h1,q.1.1,by rw[q.1.2];show q.2⟩
 .have new:∀{k:Nat}{O:Sl}{b' c:Addr},k≠i->ρ[k]?>O->O.isObj=true->σ[k]?>(some<|.ref b')->c∈JE H' w a->c∉JE H' O b':=λ{k O b' c} nk h o q m z=>by
   rw[(all nk h o q).1.2]at z;rcases(hn c m).1 with y|y
   .show off nk h o q z y
   .obtain⟨⟨x,e⟩,_⟩:=s.er.there h o q z;rw[y]at e;cases e
  rcases zj h1 with⟨ej,e,_⟩|⟨J,Y⟩
  .subst ej;subst e;rw[ha]at q1;cases q1;rcases zj h2 with⟨Z,_,_⟩|⟨hk,U⟩
   .show absurd Z.symm ne
   .showλc m=>new hk U o2 S m
  .rcases zj h2 with⟨Z,e,_⟩|⟨hk,U⟩
   .subst Z;subst e;rw[ha]at S;cases S
    showλc m z=>new J Y (Sl.obj_of_own o1) q1 z m
   .rw[(all J Y (Sl.obj_of_own o1) q1).1.2,(all hk U o2 S).1.2];show s.er.sep j k v O b b' ne Y o1 U o2 q1 S
 .show hH b x (s.bs.hh b x e) λz=>by rw[h0 b z]at e;cases e
 .cases q:G b with
  |some o'=>show s.bs.fr b o' q n
  |none=>
   rcases hf b x e q with y|y
   .show s.bs.hh.free y
   .show h0 b y
 .rcases zj h with⟨rfl,e,_⟩|⟨J,h⟩
  .subst e;rw[ha]at q;cases q;intro c m;rcases(hn c m).1 with y|y
   .show h0 c y
   .show s.bs.hh.free y
  .rw[(all J h (Sl.obj_of_own o) q).1.2];show s.ows j v b h o q
theorem jD.mut{a:Addr}{u w:Sl}(s:jD K G0 H0 G H ρ σ)(S:ρ[i]?>u)(j:u.isPl=true)(I:w.isPl=true)(ha:σ[i]?>(some<|.ref a))(U:∀xs,w=.l xs->∃vs,o=.lst vs/\HA K G xs vs)(hm:∀kvs,w=.m kvs->∃ws,o=.dK ws/\pG K G kvs ws):
  jD K G0 H0 G (upd H a o) (ρ.set i w) σ:=by
 obtain⟨Y,Z,J,O,e3⟩:=s.er.ownAt S<|Sl.own_of_pl j;rw[ha]at J;cases J;refine s.mutG S (Sl.own_of_pl j) (Sl.own_of_pl I) ha (zh.refl _) (λb x e=>?_) (λb x e n=>by rw[n]at e;cases e) (λb x e n=>?_) ?_ λc m=>?_
 .rw[upd_ne (λz=>by rw[z,O]at e;cases e)];show s.bs.gh b x e
 .rw[d6 j]at n;rw[upd_ne<|λz=>n<|jA.mpr z];show e
 .cases w with
  |l xs=>obtain⟨vs,h1,h2⟩:=U xs rfl;show⟨vs,by rw[zL,h1],h2⟩
  |m xs=>obtain⟨vs,h1,h2⟩:=hm xs rfl;show⟨vs,by rw[zL,h1],h2⟩
  |_=>cases I
 .rw[d6 I]at m;cases jA.mp m;show⟨.inl (by rw[d6 j];show jA.mpr rfl),O⟩
end
noncomputable def frz(i:Nat)(ρ:lB):lB:=match ρ[i]? with
 |some (.l xs)=>ρ.set i<|.v<|.lst xs
 |_=>ρ
section
variable {K:Fg}{G0 H0 G H G':Hp}{ρ:lB}{σ:L2.St}{i:Nat}
theorem jD.frzG{a:Addr}{u:Sl}{d:D}(s:jD K G0 H0 G H ρ σ)(O:ρ[i]?>u)(Y:u.isOwn=true)(ha:σ[i]?>(some<|.ref a))
  (hG:zh G G') (pZ:zh G' H) (hf:∀b o,G' b>o->G b=none->b∈JE H u a) (hr:Rep K G' d (.ref a)):jD K G0 H0 G' H (ρ.set i<|.v d) σ:=by
 have off:∀{j:Nat}{I:Sl}{b c:Addr},j≠i->ρ[j]?>I->I.isObj=true->σ[j]?>(some<|.ref b)->c∈JE H I b->c∉JE H u a:=λ{j I b c} ne h o q m z=>
  s.er.sep i j u I a b (Ne.symm ne) O Y h o ha q c z m
 refine⟨⟨‹s.er.len›,λj d' h=>?_,λj v h o=>?_,λj k v v' b b' ne h1 S h2 U q1 q2=>?_⟩,⟨pZ,s.bs.gg.trans hG,s.bs.hh,λb x e n=>?_⟩,λj v b h o q=>?_⟩
 .rcases zj h with⟨rfl,e,_⟩|⟨J,h⟩
  .cases e;show⟨_,ha,hr⟩
  .obtain⟨v,Z,e2⟩:=s.er.val j d' h;show⟨v,Z,Rep.mono hG _ _ e2⟩
 .rcases zj h with⟨rfl,e,_⟩|⟨J,h⟩
  .subst e;cases o
  .obtain⟨b,h1,h2,h3⟩:=s.er.slot j v h o;refine⟨b,h1,(h2.same hG λc m x z=>z).1,λc m=>?_⟩
   cases z:G' c with
   |none=>rfl
   |some x=>show absurd (hf c x z<|h3 c m)<|off J h o h1 m
 .rcases zj h1 with⟨rfl,e,_⟩|⟨J,h1⟩
  .subst e;cases S
  rcases zj h2 with⟨rfl,e,_⟩|⟨hk,h2⟩
  .subst e;cases U
  show s.er.sep j k v v' b b' ne h1 S h2 U q1 q2
 .cases q:G b with
  |some o'=>show s.bs.fr b o' q n
  |none=>show s.ows i u a O Y ha b<|hf b x e q
 .rcases zj h with⟨rfl,e,_⟩|⟨J,h⟩
  .subst e;cases o
  .show s.ows j v b h o q
theorem jD.frz(i:Nat)(s:jD K G0 H0 G H ρ σ):∃G',zh G G'/\jD K G0 H0 G' H (RD.frz i ρ) σ:=by
 have up:∀{a:Addr}{o:HO}{u:Sl},u.isPl=true->H a>o->G a=none->zh (upd G a o) H/\∀b x,upd G a o b>x->G b=none->b∈JE H u a:=λ{a o u} hp h n=>by
  refine⟨λb x e=>?_,λb x e k=>?_⟩
  .by_cases z:b=a
   .subst z;rw[zL]at e;cases e;show h
   .rw[upd_ne z]at e;show s.bs.gh b x e
  .by_cases z:b=a
   .subst z;rw[d6 hp];show jA.mpr rfl
   .rw[upd_ne z,k]at e;cases e
 unfold RD.frz;split
 .rename_i xs h;obtain⟨a,vs,h1,h2,h3,j⟩:=s.er.own i xs h;have hG:zh G (upd G a<|.lst vs):=yM h2;show⟨_,hG,s.frzG h rfl h1 hG (up (u:=.l xs) rfl h3 h2).1 (up (u:=.l xs) rfl h3 h2).2<|cQ.mpr ⟨a,vs,rfl,MF.of zL,HA.mono hG _ _ j⟩⟩
 .show⟨G,zh.refl _,s⟩
end
inductive PH(K:Fg)(G H:Hp):D->V->Prop where
 |fr {d:D} {v:V}:Rep K G d v->PH K G H d v
 |ow {xs:List D} {a:Addr} {vs:List V}:G a=none->H a>.lst vs->HA K G xs vs->PH K G H (.lst xs) (.ref a)
theorem PH.step{K:Fg}{G H G' H':Hp}{d:D}{v:V}(r:PH K G H d v)(t:zf G H G' H'):PH K G' H' d v:=by
 cases r with
 |fr r=>show .fr<|Rep.mono t.g _ _ r
 |ow h1 h2 h3=>
  refine .ow ?_ (t.h _ _ h2)<|HA.mono t.g _ _ h3;rename_i a _
  cases q:G' a with
  |none=>rfl
  |some o=>have:=t.f a o q h1;rw[h2]at this;cases this
section
variable {K:Fg}{G H:Hp}
theorem PH.list{xs:List D}{v:V}(r:PH K G H (.lst xs) v)(s:zh G H):∃a vs,v=.ref a/\MF K H a vs/\HA K G xs vs:=by
 cases r with
 |fr r=>obtain⟨a,vs,e,q,t⟩:=cQ.mp r;show⟨a,vs,e,s.seq q,t⟩
 |ow h1 h2 h3=>show⟨_,_,rfl,MF.of h2,h3⟩
theorem PH.rep(r:PH K G H d v)(h:∀xs,d≠.lst xs):Rep K G d v:=by
 cases r with
 |fr r=>show r
 |ow _ _ _=>show absurd rfl<|h _
theorem PH.int{i:Int}{v:V}(r:PH K G H (.int i) v):v=.int i:=zv.mp (r.rep λ_ z=>by cases z)
theorem PH.bl{b:Bool}{v:V}(r:PH K G H (.bl b) v):v=.bl b:=yc.mp (r.rep λ_ z=>by cases z)
theorem PH.str{x:Str}{v:V}(r:PH K G H (.str x) v):v=.str x:=qu.mp (r.rep λ_ z=>by cases z)
theorem PH.non{v:V}(r:PH K G H .non v):v=.non:=bQ.mp (r.rep λ_ z=>by cases z)
theorem PH.tup{xs:List D}{v:V}(r:PH K G H (.tup xs) v)(s:zh G H):∃a vs,v=.ref a/\aI K H a vs/\HA K G xs vs:=by
 obtain⟨a,vs,e,q,t⟩:=XS (r.rep λ_ z=>by cases z);show⟨a,vs,e,yf s q,t⟩
end
def tE(K:Fg)(f:dC):TE:=λσ H Q=>∃G ρ d,zh G H/\Er K G H ρ σ/\f ρ>d/\∀v G' H',zf G H G' H'->Rep K G' d v->Q v H'
def tR(K:Fg)(f:dC):TE:=λσ H Q=>∃G ρ d,zh G H/\Er K G H ρ σ/\f ρ>d/\∀v G' H',zf G H G' H'->PH K G' H' d v->Q v H'
def tF(K:Fg)(f:dD):TE:=λσ H Q=>∃G ρ xs,zh G H/\Er K G H ρ σ/\f ρ>xs /\
 ∀a vs G' H',zf G H G' H'->H a=none->G' a=none->H' a>.lst vs->HA K G' xs vs->Q (.ref a) H'
def Jx(K:Fg)(f:iF):TT:=λσ H Q=>∃G ρ b,zh G H/\Er K G H ρ σ/\f ρ>b/\∀G' H',zf G H G' H'->Q b H'
def tAs(K:Fg)(f:dD):TA:=λσ H Q=>∃G ρ ds,zh G H/\Er K G H ρ σ/\f ρ>ds/\∀vs G' H',zf G H G' H'->HA K G' ds vs->Q vs H'
abbrev SE(X:Cx)(e:Expr)(f:dC):Prop:=PE X e<|tE X.K f
abbrev SR(X:Cx)(e:Expr)(f:dC):Prop:=PE X e<|tR X.K f
abbrev SF(X:Cx)(e:Expr)(f:dD):Prop:=PE X e<|tF X.K f
abbrev SB(X:Cx)(e:Expr)(f:iF):Prop:=PT X e<|Jx X.K f
structure SA(X:Cx)(es:List Expr)(f:dD):Prop where
 pa:PA X es (tAs X.K f)
 len:∀ρ ds,f ρ>ds->ds.length=es.length
theorem WF{X:Cx}{e:Expr}{t t':TE}(h:PE X e t)(w:∀σ H Q,t' σ H Q->t σ H Q):PE X e t':=λpins s σ H Q I q=>h pins s σ H Q I<|w σ H Q q
theorem UV{X:Cx}{e:Expr}{t t':TT}(h:PT X e t)(w:∀σ H Q,t' σ H Q->t σ H Q):PT X e t':=λpins s σ H Q I q=>h pins s σ H Q I<|w σ H Q q
theorem Cc(h:PA X e t)(w:∀σ H Q,t' σ H Q->t σ H Q):PA X e t':=λpos pins s σ H Q I q=>h pos pins s σ H Q I<|w σ H Q q
theorem yg(h:PS X e t)(w:∀Q σ H,t' Q σ H->t Q σ H):PS X e t':=λpins s σ H Q I q=>h pins s σ H Q I<|w Q σ H q
theorem i6(h:aM X e t)(w:∀Q σ H,t' Q σ H->t Q σ H):aM X e t':=λpins s σ H Q I q=>h pins s σ H Q I<|w Q σ H q
section
variable {X:Cx}{e a b:Expr}{es:List Expr}{f g:dC}{fl:dD}{pos:Pos}
theorem zE(h:SE X e f):SR X e f:=WF h λσ H Q ⟨G,ρ,d,s,er,j,k⟩=>⟨G,ρ,d,s,er,j,λv G' H' t r=>k v G' H' t<|.fr r⟩
theorem Ri{a:Addr}{vs:List V}(t:zf G H G' H')(h1:H a=none)(h2:G' a=none)(h3:H' a>.lst vs):zf G H (upd G' a<|.lst vs) H':=
 ⟨t.g.trans<|yM h2,t.h,λb u e=>by
  by_cases z:b=a
  .subst z;rw[zL]at e;cases e;show h3
  .rw[upd_ne z]at e;show t.s b u e,λb u e n=>by
  by_cases z:b=a
  .subst z;show h1
  .rw[upd_ne z]at e;show t.f b u e n⟩
theorem zZ(h:SF X e fl):SE X e (λρ=>(fl ρ).map D.lst):=WF h λσ H Q=>by
 rintro⟨G,ρ,d,s,er,z,k⟩;obtain⟨xs,j,rfl⟩:=cA.mp z;refine⟨G,ρ,xs,s,er,j,λa vs G' H' t h1 h2 h3 r=>?_⟩;show k (.ref a) (upd G' a<|.lst vs) H' (Ri t h1 h2 h3)<|cQ.mpr ⟨a,vs,rfl,MF.of zL,HA.mono (yM h2) _ _ r⟩
noncomputable def DT(ρ:lB)(i:Nat):Option D:=match ρ[i]? with
 |some (.v d)=>some d
 |_=>none
noncomputable def YX(ρ:lB)(i:Nat):Option D:=match ρ[i]? with
 |some (.v d)=>some d
 |some (.l xs)=>some<|.lst xs
 |_=>none
abbrev gV(i:Nat):lB->Option D:=λρ=>DT ρ i
abbrev gR(i:Nat):lB->Option D:=λρ=>YX ρ i
noncomputable abbrev zM(n:Int):lB->Option D:=λ_=>some<|D.int n
noncomputable abbrev zN:lB->Option (List D):=λ_=>some []
theorem zSk{ρ:lB}(h:DT ρ i>d):ρ[i]?>.v d:=by
 unfold DT at h;split at h
 .cases h;assumption
 .cases h
theorem zSl{ρ:lB}(h:YX ρ i>d):ρ[i]?>.v d\/∃xs,d=.lst xs/\ρ[i]?>.l xs:=by
 unfold YX at h;split at h
 .cases h;left;assumption
 .cases h;right;show⟨_,rfl,by assumption⟩
 .cases h
theorem zD(i:Nat)(h:PE X e (RG i)):SE X e (gV i):=WF h λσ H Q=>by
 rintro⟨G,ρ,d,s,er,z,k⟩;obtain⟨v,j,r⟩:=er.val i d<|zSk z;show⟨v,j,k v G H (zf.refl s) r⟩
theorem zB(i:Nat)(h:PE X e (RG i)):SR X e (gR i):=WF h λσ H Q=>by
 rintro⟨G,ρ,d,s,er,O,k⟩;rcases zSl O with z|⟨xs,rfl,z⟩
 .obtain⟨v,j,r⟩:=er.val i d z;show⟨v,j,k v G H (zf.refl s)<|.fr r⟩
 .obtain⟨a,vs,j,I,e3,J⟩:=er.own i xs z;show⟨_,j,k _ G H (zf.refl s)<|.ow I e3 J⟩
theorem Ad(h:PE X e (tC v))(r:∀K G,Rep K G d v):SE X e (λ_=>some d):=WF h λσ H Q=>by
 rintro⟨G,ρ,d',s,er,j,k⟩;cases j;show k v G H (zf.refl s)<|r _ _
theorem zF{i j}:SE X (.Constant (.int i) j pos) (λ_=>some<|.int i):=Ad zQ8 λ_ _=>zv.mpr rfl
theorem RX{i j}:SE X (.Constant (.bool i) j pos) (λ_=>some<|.bl i):=Ad D1 λ_ _=>yc.mpr rfl
theorem DX{j}:SE X (.Constant .none j pos) (λ_=>some .non):=Ad zUt λ_ _=>bQ.mpr rfl
theorem yC{i j}:SE X (.Constant (.str i) j pos) (λ_=>some<|.str i):=Ad zQ9 λ_ _=>qu.mpr rfl
def rD(K:Fg)(op:D->D->Option D):R2:=λx y H Q=>∃G dx dy d,zh G H/\PH K G H dx x/\PH K G H dy y/\op dx dy>d/\∀v G' H',zf G H G' H'->Rep K G' d v->Q v H'
noncomputable def b2(f g:dC)(op:D->D->Option D):dC:=λρ=>(f ρ).bind λx=>(g ρ).bind λy=>op x y
theorem Cd{K:Fg}{op:D->D->Option D}{σ:L2.St}{H:Hp}{Q:VK}(h:tE K (b2 f g op) σ H Q):tV (rD K op) (tR K f) (tR K g) σ H Q:=by
 obtain⟨G,ρ,d,s,er,j,k⟩:=h;obtain⟨x,J,j⟩:=aA.mp j;obtain⟨y,O,j⟩:=aA.mp j;refine⟨G,ρ,x,s,er,J,λS z H1 t1 r1=>⟨z,ρ,y,t1.s,er.step t1,O,λU I H2 t2 r2=>?_⟩⟩;show⟨I,x,y,d,t2.s,r1.step t2,r2,j,λv G' H' t r=>k v G' H' ((t1.trans t2).trans t) r⟩
theorem zc{j:D->D->Option D}(z:ZI X (binaryOp op) (rD X.K j))(ha:SR X a f)(hb:SR X b g):SE X (.BinOp a op b pos) (b2 f g j):=WF (zU8 z ha hb) λ_ _ _ h=>Cd h
theorem YR{j:D->D->Option D}(z:ZI X (compareOp op) (rD X.K j))(ha:SR X a f)(hb:SR X b g)(hm:behindInMarks op b=false):SE X (.Compare a [op] [b] pos) (b2 f g j):=WF (zMn z ha hb hm) λ_ _ _ h=>Cd h
noncomputable def AS:D->Option Bool
 |.bl b=>some b
 |_=>none
noncomputable def bB(f:dC):iF:=λρ=>(f ρ).bind AS
theorem j6{d:D}{b:Bool}(h:AS d>b):d=.bl b:=by
 cases d<;>first|(cases h;rfl)|cases h
theorem yO{op:CmpOp}{z:D->D->Option D}(S:ZI X (compareOp op) (rD X.K z))(ha:SR X a f)(hb:SR X b g)(hm:behindInMarks op b=false):SB X (.Compare a [op] [b] pos) (bB<|b2 f g z):=
 UV (Qb S ha hb hm) λσ H Q=>by
  rintro⟨G,ρ,d,s,er,O,k⟩;obtain⟨x,I,J⟩:=aA.mp O;have e3:=j6 J;subst e3;show Cd ⟨G,ρ,_,s,er,I,λv G' H' t r=>⟨d,yc.mp r,k G' H' t⟩⟩
def b3(f g h:dC)(o1 o2:D->D->Option D):dC:=λρ=>(f ρ).bind λx=>(g ρ).bind λy=>(o1 x y).bind λz=>(AS z).bind λk=>if k=true then (h ρ).bind λw=>o2 y w else some (.bl false)
noncomputable def PY(f g:iF):iF:=λρ=>(f ρ).bind λb=>if b=true then g ρ else some false
noncomputable def QY(f g:iF):iF:=λρ=>(f ρ).bind λb=>if b=true then some true else g ρ
noncomputable def ZX(f:iF):iF:=λρ=>(f ρ).map (!·)
abbrev SW(X:Cx)(e:Expr)(f:iF):Prop:=PW X e<|Jx X.K f
theorem zVW(h:PW X e t)(w:∀σ H Q,t' σ H Q->t σ H Q):PW X e t':=λj pins s σ H Q I q=>h j pins s σ H Q I<|w σ H Q q
theorem mV{f:iF}(h:SW X e f):SB X e f:=h.pt
variable {p q:iF}{rest:List Expr}
theorem zSn(ha:SB X a p):SW X (.BoolOp .And [a] pos) p:=zSE ha
theorem zRH(ha:SB X a p):SW X (.BoolOp .Or [a] pos) p:=zUv ha
theorem zVX(ha:SB X a p)(hb:SW X (.BoolOp .And (b::rest) pos) q):SW X (.BoolOp .And (a::b::rest) pos) (PY p q):=
 zVW (zUw ha hb) λσ H Q=>by
  rintro⟨G,ρ,d,s,er,j,k⟩;obtain⟨c,I,j⟩:=aA.mp j;refine⟨G,ρ,c,s,er,I,λz H1 t1=>?_⟩
  cases c with
  |false=>rw[if_neg cB]at j ⊢;cases j;show k z H1 t1
  |true=>rw[if_pos rfl]at j ⊢;show⟨z,ρ,d,t1.s,er.step t1,j,λG' H' t=>k G' H'<|t1.trans t⟩
theorem zVY(ha:SB X a p)(hb:SW X (.BoolOp .Or (b::rest) pos) q):SW X (.BoolOp .Or (a::b::rest) pos) (QY p q):=
 zVW (P1 ha hb) λσ H Q=>by
  rintro⟨G,ρ,d,s,er,j,k⟩;obtain⟨c,I,j⟩:=aA.mp j;refine⟨G,ρ,c,s,er,I,λz H1 t1=>?_⟩
  cases c with
  |true=>rw[if_pos rfl]at j ⊢;cases j;show k z H1 t1
  |false=>rw[if_neg cB]at j ⊢;show⟨z,ρ,d,t1.s,er.step t1,j,λG' H' t=>k G' H'<|t1.trans t⟩
theorem Rj(ha:SB X a p):SB X (.UnaryOp .Not a pos) (ZX p):=UV (zUx ha) λσ H Q=>by
 rintro⟨G,ρ,d,s,er,I,k⟩;obtain⟨c,z,rfl⟩:=cA.mp I;show⟨G,ρ,c,s,er,z,λj H1 t1=>k j H1 t1⟩
noncomputable def W3:D->Option Bool
 |.non=>some false
 |.bl b=>some b
 |.int i=>some<|i != 0
 |.str x=>if x.length<=sizeLine then some ((x.length:Int) != 0) else none
 |.tup xs=>some<|!xs.isEmpty
 |.lst xs=>some<|!xs.isEmpty
theorem xt{K:Fg}{G:Hp}{xs:List D}{vs:List V}(h:HA K G xs vs):xs.isEmpty=vs.isEmpty:=by
 have:=h.length;cases xs<;>cases vs<;>simp_all
noncomputable def QQ(f:dC):iF:=λρ=>(f ρ).bind W3
theorem OV(ha:SR X a f)(he:∀z,isTrue a X.env z=(do let v <- z;standAt a.pos;holding [v] (truthy v)):=by intro _;rfl):SB X a (QQ f):=
 UV (zPU ha he) λσ H Q=>by
  rintro⟨G,ρ,b,s,er,j,k⟩;obtain⟨d,J,j⟩:=aA.mp j;refine⟨G,ρ,d,s,er,J,λv I H1 t1 r1=>⟨b,?_,k I H1 t1⟩⟩
  cases d with
  |non=>cases j;rw[r1.non];show rfl
  |bl c=>cases j;rw[r1.bl];show rfl
  |int c=>cases j;rw[r1.int];show rfl
  |str c=>
   dsimp[W3]at j;split at j
   .rename_i h;cases j;rw[r1.str];show⟨h,rfl⟩
   .cases j
  |tup xs=>cases j;obtain⟨a,vs,rfl,q,r⟩:=r1.tup t1.s;show .inr (.inl ⟨vs,q,by rw[xt r]⟩)
  |lst xs=>cases j;obtain⟨a,vs,rfl,q,r⟩:=r1.list t1.s;show .inl ⟨vs,q,by rw[xt r]⟩
def jS(f g:dC):dC:=λρ=>(f ρ).bind λx=>(AS x).bind λb=>if b=true then g ρ else some (.bl false)
def Zw(f g:dC):dC:=λρ=>(f ρ).bind λx=>(AS x).bind λb=>if b=true then some (.bl true) else g ρ
def Y3(f:dC):dC:=λρ=>(f ρ).bind λx=>(AS x).map λb=>.bl<|!b
theorem EX{op}(h:SE X a f):SE X (.BoolOp op [a] pos) f:=zUy h
theorem FX(ha:SE X a f)(hb:SE X (.BoolOp .And (b::rest) pos) g):SE X (.BoolOp .And (a::b::rest) pos) (jS f g):=
 WF (zUz ha hb) λσ H Q=>by
  rintro⟨G,ρ,d,s,er,S,k⟩;obtain⟨x,J,U⟩:=aA.mp S;obtain⟨c,O,z⟩:=aA.mp U;have e3:=j6 O;subst e3;refine⟨G,ρ,_,s,er,J,λY I H1 t1 r1=>⟨c,yc.mp r1,?_⟩⟩
  cases c with
  |false=>rw[if_neg cB]at z ⊢;cases z;show k _ I H1 t1<|yc.mpr rfl
  |true=>rw[if_pos rfl]at z ⊢;show⟨I,ρ,d,t1.s,er.step t1,z,λv G' H' t r=>k v G' H' (t1.trans t) r⟩
theorem U2(ha:SE X a f)(hb:SE X (.BoolOp .Or (b::rest) pos) g):SE X (.BoolOp .Or (a::b::rest) pos) (Zw f g):=
 WF (J1 ha hb) λσ H Q=>by
  rintro⟨G,ρ,d,s,er,Y,k⟩;obtain⟨x,O,Z⟩:=aA.mp Y;obtain⟨c,S,z⟩:=aA.mp Z;have e3:=j6 S;subst e3;refine⟨G,ρ,_,s,er,O,λv1 I H1 t1 r1=>⟨c,yc.mp r1,?_⟩⟩
  cases c with
  |true=>rw[if_pos rfl]at z ⊢;cases z;show k _ I H1 t1<|yc.mpr rfl
  |false=>rw[if_neg cB]at z ⊢;show⟨I,ρ,d,t1.s,er.step t1,z,λv G' H' t r=>k v G' H' (t1.trans t) r⟩
theorem zVZ(ha:SE X a f):SE X (.UnaryOp .Not a pos) (Y3 f):=WF (zU0 ha) λσ H Q=>by
 rintro⟨G,ρ,d,s,er,z,k⟩;obtain⟨x,J,z⟩:=aA.mp z;obtain⟨c,O,rfl⟩:=cA.mp z;have e3:=j6 O;subst e3;show⟨G,ρ,_,s,er,J,λS I H1 t1 r1=>⟨c,yc.mp r1,k _ I H1 t1<|yc.mpr rfl⟩⟩
noncomputable def zC(f:dC)(g:dD):dD:=λρ=>(f ρ).bind λx=>(g ρ).map λxs=>x::xs
theorem zG:SA X [] zN:=⟨Cc yk λσ H Q=>by rintro⟨G,ρ,d,s,er,j,k⟩;cases j;show k [] G H (zf.refl s) HA.nil,λρ ds h=>by cases h;rfl⟩
theorem zA(ha:SE X e f)(hr:SA X es fl)(hs:oG X e es:=by rfl):SA X (e::es) (zC f fl):=by
 refine⟨Cc (yA ha hr.pa hs) λσ H Q ⟨G,ρ,d,s,er,j,k⟩=>?_,λρ ds h=>?_⟩
 .obtain⟨x,I,j⟩:=aA.mp j;obtain⟨xs,z,rfl⟩:=cA.mp j;show⟨G,ρ,x,s,er,I,λS J H1 t1 r1=>⟨J,ρ,xs,t1.s,er.step t1,z,λvs O H2 t2 r2=>k _ O H2 (t1.trans t2)<|HA.cons (Rep.mono t2.g _ _ r1) r2⟩⟩
 .obtain⟨x,I,j⟩:=aA.mp h;obtain⟨xs,z,rfl⟩:=cA.mp j;rw[kA,kA,hr.len ρ xs z]
theorem DQ(h:n<=1000):n<=sizeLine:=kE<|zM8 h
theorem zW{x1}(h:SA X es fl)(I:es.length<=1000:=by decide):SE X (.Tuple es x1 pos) (λρ=>(fl ρ).map D.tup):=WF (zVG h.pa) λσ H Q=>by
 rintro⟨G,ρ,d,s,er,z,k⟩;obtain⟨xs,j,rfl⟩:=cA.mp z;refine⟨G,ρ,xs,s,er,j,λvs J H1 t1 r1=>⟨by rw[<- r1.length,h.len _ _ j];show DQ I,λp hp=>?_⟩⟩;show k _ _ _ (t1.trans<|zf.new t1.s hp)<|LR.mpr ⟨p,vs,rfl,zL,HA.mono (yM<|t1.s.free hp) _ _ r1⟩
theorem qS(h:SA X es fl)(I:es.length<=1000:=by decide):SF X (.List es pos) fl:=WF (Rb h.pa) λσ H Q=>by
 rintro⟨G,ρ,xs,s,er,j,k⟩;refine⟨G,ρ,xs,s,er,j,λvs z H1 t1 r1=>⟨by rw[<- r1.length,h.len _ _ j];show DQ I,λp hp=>?_⟩⟩;show k p vs z (upd H1 p<|.lst vs) (t1.trans<|zf.newH t1.s hp) (t1.h.free hp) (t1.s.free hp) zL r1
def oV(K:Fg)(f:List D->Option D)(n:Nat):Sp:=λvs H Q _=>∃G ds d,zh G H/\HA K G ds vs/\ds.length=n/\f ds>d/\∀v G' H',zf G H G' H'->Rep K G' d v->Q v H'
theorem zSo{k n:Nat}{fa:Addr}{fd:FuncData}{ps:List Str}{F:List D->Option D}{x:Str}{p:Pos}(I:KI X.prog X.w X.K X.mg X.base EI k fa fd ps (oV X.K F n))(hr:IF k X.A)(Y:Gl X x)(hm:X.mg x>.ref fa)(hk:pB X.K (.ref fa)=true)
  (hb:OL X.K fd ps []) (Z:(e::es).length=n) (ha:SA X (e::es) fl) (O:BM x:=by decide) (he:oG X e es:=by rfl)
  (z:WH X pos es:=by rfl):SE X (.Call (.Name x p) (e::es) [] pos) (λρ=>(fl ρ).bind F):=
 WF (Ay (E:=E0) I hr Y hm hk hb .nil QX ha.pa O he z) λσ H Q=>by
  rintro⟨G,ρ,d,s,er,U,k⟩;obtain⟨xs,j,S⟩:=aA.mp U;refine⟨G,ρ,xs,s,er,j,λvs J H1 t1 r1=>?_⟩;change oV X.K F n (vs++[]) H1 Q E0;rw[oB];show⟨J,xs,d,t1.s,r1,by rw[ha.len _ _ j,Z],S,λv G' H' t r=>k v G' H' (t1.trans t) r⟩
def cR(K:Fg)(op:D->Option D):List V->Hp->VK->Prop:=λxs H Q=>∃G d1 d x,xs=[x]/\zh G H/\PH K G H d1 x/\op d1>d/\∀v G' H',zf G H G' H'->Rep K G' d v->Q v H'
def cF(K:Fg)(op:D->Option (List D)):List V->Hp->VK->Prop:=λxs H Q=>∃G d1 ys x,xs=[x]/\zh G H/\PH K G H d1 x/\op d1>ys /\
 ∀a vs G' H',zf G H G' H'->H a=none->G' a=none->H' a>.lst vs->HA K G' ys vs->Q (.ref a) H'
variable {x:Str}{p1:Pos}{id T:String}
noncomputable def b1(f:dC)(op:D->Option D):dC:=λρ=>(f ρ).bind op
theorem zVa{K:Fg}{op:D->Option D}{σ:L2.St}{H:Hp}{Q:VK}(h:tE K (b1 f op) σ H Q):U8 (cR K op) (Su (tR K f) FR) σ H Q:=by
 obtain⟨G,ρ,d,s,er,j,k⟩:=h;obtain⟨d1,I,j⟩:=aA.mp j;show⟨G,ρ,d1,s,er,I,λJ z H1 t1 r1=>⟨z,d1,d,J,rfl,t1.s,r1,j,λv G' H' t r=>k v G' H' (t1.trans t) r⟩⟩
noncomputable def QO(f:dC)(op:D->Option (List D)):dD:=λρ=>(f ρ).bind op
theorem zRI{K:Fg}{op:D->Option (List D)}{σ:L2.St}{H:Hp}{Q:VK}(h:tF K (QO f op) σ H Q):U8 (cF K op) (Su (tR K f) FR) σ H Q:=by
 obtain⟨G,ρ,d,s,er,j,k⟩:=h;obtain⟨d1,I,j⟩:=aA.mp j;show⟨G,ρ,d1,s,er,I,λJ z H1 t1 r1=>⟨z,d1,d,J,rfl,t1.s,r1,j,λa vs G' H' t h1 h2 h3 r=>k a vs G' H' (t1.trans t) (t1.h.free h1) h2 h3 r⟩⟩
theorem z6{op:D->Option D}(hc:BK X (.builtin id) (cR X.K op))(O:Gl X x)(hm:X.mg x=none)(hv:LB x>.builtin id)(ha:SR X a f)(S:x ≠ "__name__":=by decide)(J:BM x:=by decide)
  (hs:oG X a []:=by rfl) (he:oG X a []:=by rfl) (I:WH X pos []:=by rfl):SE X (.Call (.Name x p1) [a] [] pos) (b1 f op):=
 WF (j5 hc O hm hv (yA ha yk hs) S J he I) λ_ _ _ h=>zVa h
theorem z8{op:D->Option D}(hc:BK X (.type T) (cR X.K op))(J:Gl X x)(hm:X.mg x=none)(hv:LB x>.type T)(ha:SR X a f)(O:x ≠ "__name__":=by decide)(I:BM x:=by decide)
  (hs:oG X a []:=by rfl) (he:oG X a []:=by rfl) (j:WH X pos []:=by rfl):SE X (.Call (.Name x p1) [a] [] pos) (b1 f op):=
 WF (W9 hc J hm hv (yA ha yk hs) O I he j) λ_ _ _ h=>zVa h
theorem Ae{op:D->Option (List D)}(hc:BK X (.builtin id) (cF X.K op))(J:Gl X x)(hm:X.mg x=none)(hv:LB x>.builtin id)(ha:SR X a f)(O:x ≠ "__name__":=by decide)(I:BM x:=by decide)
  (hs:oG X a []:=by rfl) (he:oG X a []:=by rfl) (z:WH X pos []:=by rfl):SF X (.Call (.Name x p1) [a] [] pos) (QO f op):=
 WF (j5 hc J hm hv (yA ha yk hs) O I he z) λ_ _ _ h=>zRI h
theorem zND{op:D->Option (List D)}(hc:BK X (.type T) (cF X.K op))(I:Gl X x)(hm:X.mg x=none)(hv:LB x>.type T)(ha:SR X a f)(J:x ≠ "__name__":=by decide)(z:BM x:=by decide)
  (hs:oG X a []:=by rfl) (he:oG X a []:=by rfl) (j:WH X pos []:=by rfl):SF X (.Call (.Name x p1) [a] [] pos) (QO f op):=
 WF (W9 hc I hm hv (yA ha yk hs) J z he j) λ_ _ _ h=>zRI h
end
inductive Out where
 |nx (ρ:lB)|rt (d:D)|bk (ρ:lB)|ct (ρ:lB)
  |ro (s:Sl)
  |rm (d:D) (ρ:lB)
abbrev aC:=lB->Option Out
def aY(K:Fg)(G0 H0:Hp)(E:RQ):Out->Prop
 |.nx ρ=>∀σ G H,jD K G0 H0 G H ρ σ->E.nx σ H
 |.bk ρ=>∀σ G H,jD K G0 H0 G H ρ σ->E.bk σ H
 |.ct ρ=>∀σ G H,jD K G0 H0 G H ρ σ->E.ct σ H
 |.rt d=>∀v G H,Bs G0 H0 G H->Rep K G d v->E.rt v H
 |.ro s=>∀a G H,Bs G0 H0 G H->bO K G H s a->(∀c∈JE H s a,G c=none/\H0 c=none)->E.rt (.ref a) H
 |.rm d ρ=>∀v σ G H,jD K G0 H0 G H ρ σ->Rep K G d v->E.rt v H
def tS(K:Fg)(F:aC):TS:=λE σ H=>∃G0 H0 G ρ o,jD K G0 H0 G H ρ σ/\F ρ>o/\aY K G0 H0 E o
abbrev SS(X:Cx)(s:Stmt)(F:aC):Prop:=PS X s<|tS X.K F
abbrev QJ(X:Cx)(s:List Stmt)(F:aC):Prop:=aM X s<|tS X.K F
section
variable {X:Cx}{e a b:Expr}{es:List Expr}{f g:dC}{fl:dD}{p:iF}{pos:Pos}{F F':aC}{st:Stmt}{rest:List Stmt}
noncomputable def sq(F F':aC):aC:=λρ=>(F ρ).bind λo=>match o with
 |.nx ρ'=>F' ρ'
 |o=>some o
theorem yG:QJ X [] (λρ=>some<|.nx ρ):=i6 zSF λQ σ H=>by rintro⟨G0,H0,G,ρ,o,st,j,k⟩;cases j;show k σ G H st
theorem zH(h1:SS X st F)(h2:QJ X rest F'):QJ X (st::rest) (sq F F'):=i6 (zKY h1 h2) λQ σ H=>by
 rintro⟨G0,H0,G,ρ,o,st,J,k⟩;obtain⟨z,I,j⟩:=aA.mp J;refine⟨G0,H0,G,ρ,z,st,I,?_⟩
 cases z with
 |nx ρ'=>showλO G' H' SC=>⟨G0,H0,G',ρ',o,SC,j,k⟩
 |rt d=>cases j;show k
 |ro d=>cases j;show k
 |rm d ρ=>cases j;show k
 |bk d=>cases j;show k
 |ct d=>cases j;show k
theorem zO(h1:SS X st F):QJ X [st] F:=zMh h1
theorem zVb(i:Nat)(h:QJ X rest F):QJ X rest (λρ=>F<|frz i ρ):=i6 h λQ σ H=>by
 rintro⟨G0,H0,G,ρ,o,st,j,k⟩;obtain⟨G',z,SC⟩:=st.frz i;show⟨G0,H0,G',frz i ρ,o,SC,j,k⟩
theorem zSp:SS X (.Continue pos) (λρ=>some<|.ct ρ):=yg zJg λQ σ H=>by rintro⟨G0,H0,G,ρ,o,st,j,k⟩;cases j;show k σ G H st
noncomputable def wF(f:dC):aC:=λρ=>(f ρ).map .rt
theorem zm(he:SE X e f):SS X (.Return (some e) pos) (wF f):=yg (Y5 he) λQ σ H=>by
 rintro⟨G0,H0,G,ρ,o,st,z,k⟩;obtain⟨d,j,rfl⟩:=cA.mp z;show⟨G,ρ,d,st.bs.gh,st.er,j,λv G' H' t r=>k v G' H' (st.bs.step t) r⟩
noncomputable def nG(c:iF)(F F':aC):aC:=λρ=>(c ρ).bind λb=>if b=true then F ρ else F' ρ
theorem qN(hc:SB X c p)(ha:QJ X A F)(hb:QJ X B F'):SS X (.If c A B pos) (nG p F F'):=yg (zU1 hc ha hb) λQ σ H=>by
 rintro⟨G0,H0,G,ρ,o,st,I,k⟩;obtain⟨d,z,j⟩:=aA.mp I;refine⟨G,ρ,d,st.bs.gh,st.er,z,λG' H' t=>?_⟩
 cases d with
 |true=>rw[if_pos rfl]at j ⊢;show⟨G0,H0,G',ρ,o,st.step t,j,k⟩
 |false=>rw[if_neg cB]at j ⊢;show⟨G0,H0,G',ρ,o,st.step t,j,k⟩
noncomputable def qF(i:Nat)(f:dC):aC:=λρ=>(f ρ).map λd=>.nx<|ρ.set i<|.v d
noncomputable def AJ(i:Nat)(f:dD):aC:=λρ=>(f ρ).map λd=>.nx<|ρ.set i<|.l d
variable {i:Nat}{x:Str}{pos':Pos}
theorem zg(i:Nat)(he:SE X e f)(I:X.N.Nodup)(hi:X.N[i]?>x)(hx:Loc X.env.scope x)(hs:PK X e (some<|.Name x pos') pos:=by rfl)
  (hf:SN X x:=by first|show .inl rfl|show .inr rfl|assumption):SS X (.Assign [.Name x pos'] e pos) (qF i f):=
 yg (aT I hi hx he hs hf) λQ σ H=>by
  rintro⟨G0,H0,G,ρ,o,st,z,k⟩;obtain⟨d,j,rfl⟩:=cA.mp z;show⟨G,ρ,d,st.bs.gh,st.er,j,λv G' H' t r=>k _ G' H'<|(st.step t).setV r⟩
theorem qv(i:Nat)(he:SF X e fl)(J:X.N.Nodup)(hi:X.N[i]?>x)(hx:Loc X.env.scope x)(hs:PK X e (some<|.Name x pos') pos:=by rfl)
  (hf:SN X x:=by first|show .inl rfl|show .inr rfl|assumption):SS X (.Assign [.Name x pos'] e pos) (AJ i fl):=
 yg (aT J hi hx he hs hf) λQ σ H=>by
  rintro⟨G0,H0,G,ρ,o,st,I,k⟩;obtain⟨d,j,rfl⟩:=cA.mp I;refine⟨G,ρ,d,st.bs.gh,st.er,j,λa vs G' H' t h1 h2 h3 r=>k _ G' H'<|st.setOwn t rfl h1 h2 (λxs z=>?_) λ_ z=>by cases z⟩;cases z;show⟨vs,h3,r⟩
def tGt(K:Fg)(g:D->lB->Option lB):TG:=λv σ H Q=>∃G0 H0 G ρ d ρ',jD K G0 H0 G H ρ σ/\Rep K G d v/\g d ρ>ρ'/\∀uC,jD K G0 H0 G H ρ' uC->Q uC H
def Jq(K:Fg)(g:List D->lB->Option lB):jU:=λvs σ H Q=>∃G0 H0 G ρ ds ρ',jD K G0 H0 G H ρ σ/\HA K G ds vs/\g ds ρ>ρ'/\∀uC,jD K G0 H0 G H ρ' uC->Q uC H
abbrev SG(X:Cx)(e:Expr)(g:D->lB->Option lB):Prop:=PG X e<|tGt X.K g
abbrev W7(X:Cx)(e:List Expr)(g:List D->lB->Option lB):Prop:=iU X e<|Jq X.K g
theorem zVc(h:PG X e t)(w:∀v σ H Q,t' v σ H Q->t v σ H Q):PG X e t':=λpins s σ H v u Q I r q=>h pins s σ H v u Q I r<|w v σ H Q q
theorem zRJ{X:Cx}{e:List Expr}{t t':jU}(h:iU X e t)(w:∀v σ H Q,t' v σ H Q->t v σ H Q):iU X e t':=λpins s σ H v u Q I r q=>h pins s σ H v u Q I r<|w v σ H Q q
noncomputable def gN(i:Nat):D->lB->Option lB:=λd ρ=>some<|ρ.set i<|.v d
theorem zS(i:Nat)(j:X.N.Nodup)(hi:X.N[i]?>x)(hx:Loc X.env.scope x)(hf:SN X x:=by first|show .inl rfl|show .inr rfl|assumption):SG X (.Name x pos) (gN i):=
 zVc (zSG j hi hx hf) λv σ H Q=>by
  rintro⟨G0,H0,G,ρ,d,ρ',st,r,e,k⟩;cases e;show k _<|st.setV r
noncomputable def vF:List D->lB->Option lB:=λds ρ=>match ds with
 | []=>some ρ
 |_=>none
noncomputable def UD(g:D->lB->Option lB)(gs:List D->lB->Option lB):List D->lB->Option lB:=λds ρ=>match ds with
 | []=>none
 |d::r=>(g d ρ).bind λρ'=>gs r ρ'
theorem XO:W7 X [] vF:=zRJ zSH λv σ H Q=>by
 rintro⟨G0,H0,G,ρ,ds,ρ',st,r,e,k⟩
 cases ds with
 |nil=>cases e;show⟨yB.mp r,k σ st⟩
 |cons _ _=>cases e
theorem zu{gd:D->lB->Option lB}{j:List D->lB->Option lB}(h1:SG X e gd)(h2:W7 X es j)(hs:(assignEach (e::es) X.env).map (·.2)=assign e X.env::(assignEach es X.env).map (·.2):=by rfl):W7 X (e::es) (UD gd j):=
 zRJ (zPT h1 h2 hs) λvs σ H Q=>by
  rintro⟨G0,H0,G,ρ,ds,ρ',st,r,e,k⟩
  cases ds with
  |nil=>cases e
  |cons d ds=>
   obtain⟨v,J,rfl,O,rs⟩:=zV.mp r;obtain⟨ρ1,z,I⟩:=aA.mp e;show⟨v,J,rfl,G0,H0,G,ρ,d,ρ1,st,O,z,λS SC=>⟨G0,H0,G,ρ1,ds,ρ',SC,rs,I,k⟩⟩
noncomputable def gT(n:Nat)(gs:List D->lB->Option lB):D->lB->Option lB:=λd ρ=>match d with
 |.tup ds=>if ds.length=n then gs ds ρ else none
 |_=>none
theorem aP{j:List D->lB->Option lB}(hc:X.calm=true)(h:W7 X es j)(I:(assignEach es X.env).length=n:=by rfl)(J:(assignEach es X.env).findIdx? (·.1)=none:=by rfl):SG X (.Tuple es k pos) (gT n j):=
 zVc (zU4 hc h I J) λv σ H Q=>by
  rintro⟨G0,H0,G,ρ,d,ρ',st,r,e,k⟩
  cases d with
  |tup ds=>
   dsimp[gT]at e;split at e
   .rename_i z;obtain⟨a,vs,rfl,q,rs⟩:=XS r;show⟨a,vs,rfl,yf st.bs.gh q,by rw[<- rs.length];show z,G0,H0,G,ρ,ds,ρ',st,rs,e,k⟩
   .cases e
  |_=>cases e
noncomputable def R6(f:dC)(g:D->lB->Option lB):aC:=λρ=>(f ρ).bind λd=>(g d ρ).map .nx
theorem zRK{gd:D->lB->Option lB}(he:SE X e f)(J:SG X tg gd)(hs:jK [tg] e pos.line X.env=pure false:=by rfl)(O:iK [tg] e X.env=pure none:=by rfl)(h1:(assignEach [tg] X.env).map (·.2)=[assign tg X.env]:=by rfl):SS X (.Assign [tg] e pos) (R6 f gd):=
 yg (Qz he J hs O h1) λQ σ H=>by
  rintro⟨G0,H0,G,ρ,o,st,I,k⟩;obtain⟨d,j,z⟩:=aA.mp I;obtain⟨ρ',e3,rfl⟩:=cA.mp z;show⟨G,ρ,d,st.bs.gh,st.er,j,λv G' H' t r=>⟨G0,H0,G',ρ,d,ρ',st.step t,r,e3,λS SC=>k S G' H' SC⟩⟩
structure YM(K:Fg)(G:Hp)(J:It)(ds:List D):Prop where
 go:∀i H,zh G H->i<ds.length->J.go i H
 stop:∀i H,zh G H->ds.length<=i->J.stop i H
 yld:∀i G1 H x H',zh G G1->zh G1 H->i<ds.length->J.yld i H x H'->∃G2,zf G1 H G2 H'/\∀d,ds[i]?>d->Rep K G2 d x
def tI(K:Fg)(f:dD):TI:=λσ H R=>∃G ρ ds,zh G H/\Er K G H ρ σ/\f ρ>ds/\∀J G' H',zf G H G' H'->YM K G' J ds->R J H'
abbrev SI(X:Cx)(tg iter:Expr)(f:dD):Prop:=PI X tg iter<|tI X.K f
theorem Ce(h:PI X tg e t)(w:∀σ H Q,t' σ H Q->t σ H Q):PI X tg e t':=λpins s σ H Q I q=>h pins s σ H Q I<|w σ H Q q
noncomputable def zi(g:D->lB->Option lB)(F:aC):List D->lB->Option Out
 | [],ρ=>some<|.nx ρ
 |d::ds,ρ=>(g d ρ).bind λρ1=>(F ρ1).bind λo=>match o with
  |.nx ρ'=>zi g F ds ρ'
  |.ct ρ'=>zi g F ds ρ'
  |.bk ρ'=>some<|.nx ρ'
  |.rt d=>some<|.rt d
  |.ro s=>some<|.ro s
  |.rm d ρ=>some<|.rm d ρ
noncomputable def zn(f:dD)(g:D->lB->Option lB)(F:aC):aC:=λρ=>(f ρ).bind λds=>zi g F ds ρ
def qT(H:Hp)(ρ:lB)(σ:L2.St):Hp:=λb=>@ite _ (∃(i:Nat)(s:Sl)(a:Addr),ρ[i]?>s/\s.isOwn=true/\σ[i]?>(some<|.ref a)/\b∈JE H s a) (Classical.propDecidable _) none (H b)
theorem vt:zh (qT H ρ σ) H:=λb o e=>by
 unfold qT at e;split at e
 .cases e
 .show e
theorem Mn{ρ:lB}{σ:L2.St}{b a:Addr}{i:Nat}{s:Sl}(h:ρ[i]?>s)(o:s.isOwn=true)(q:σ[i]?>(some<|.ref a))(m:b∈JE H s a):qT H ρ σ b=none:=by
 unfold qT;rw[if_pos ⟨i,s,a,h,o,q,m⟩]
theorem jD.base{K:Fg}{G0 H0 G H:Hp}{ρ:lB}{σ:L2.St}(s:jD K G0 H0 G H ρ σ):jD K G (qT H ρ σ) G H ρ σ/\zh G0 G/\zh H0 (qT H ρ σ):=by
 refine⟨⟨s.er,⟨s.bs.gh,zh.refl _,vt,λb o e n=>by rw[e]at n;cases n⟩,λi u a h o q c m=>Mn h o q m⟩,s.bs.gg,λb o e=>?_⟩;unfold qT;split
 .rename_i h;obtain⟨i,u,a,h1,h2,h3,j⟩:=h;rw[s.ows i u a h1 h2 h3 b j]at e;cases e
 .show s.bs.hh b o e
theorem Bs.back(f:∀b o,G1 b>o->G0 b=none->H0 b=none)(g:zh G0 G1)(h:zh H0 H1)(b:Bs G1 H1 G H):Bs G0 H0 G H:=
 ⟨b.gh,g.trans b.gg,h.trans b.hh,λc o e n=>by
  cases q:G1 c with
  |some o'=>show f c o' q n
  |none=>show h.free<|b.fr c o e q⟩
theorem jD.back{K:Fg}{G0 H0 j H1 G H:Hp}{ρ:lB}{σ:L2.St}(f:∀b o,j b>o->G0 b=none->H0 b=none)(g:zh G0 j)(h:zh H0 H1)(s:jD K j H1 G H ρ σ):jD K G0 H0 G H ρ σ:=
 ⟨s.er,s.bs.back f g h,λi u a q o p c m=>h.free<|s.ows i u a q o p c m⟩
theorem aY.back{K:Fg}{G0 H0 j H1:Hp}{E:RQ}{o:Out}(f:∀b o,j b>o->G0 b=none->H0 b=none)(g:zh G0 j)(h:zh H0 H1)(k:aY K G0 H0 E o):aY K j H1 E o:=by
 cases o with
 |nx ρ=>showλσ G H s=>k σ G H<|s.back f g h
 |bk ρ=>showλσ G H s=>k σ G H<|s.back f g h
 |ct ρ=>showλσ G H s=>k σ G H<|s.back f g h
 |rt d=>showλv G H b r=>k v G H (b.back f g h) r
 |ro s=>showλa G H b r n=>k a G H (b.back f g h) r λc m=>⟨(n c m).1,h.free (n c m).2⟩
 |rm d ρ=>showλv σ G H s r=>k v σ G H (s.back f g h) r
theorem DN{body:List Stmt}{gd:D->lB->Option lB}(hp:PassesOwn (model X.prog X.w) X.A X.env X.xe)(hc:X.calm=true)(hi:SI X tg iter fl)(hg:SG X tg gd)(hb:QJ X body F)(hs:∀x,cC iter X.env x=pure x:=by intro _;rfl):SS X (.For tg iter body [] pos) (zn fl gd F):=
 yg (zU7 hp hc hi hg hb hs) λE σ H=>by
  rintro⟨G0,H0,G,ρ,o,st,ef,k⟩;obtain⟨ds,e1,e2⟩:=aA.mp ef;refine⟨G,ρ,ds,st.bs.gh,st.er,e1,λJ z H1 t1 it=>?_⟩;obtain⟨rO,sg,sh⟩:=(st.step t1).base;have k1:=k.back (st.step t1).bs.fr sg sh;generalize hH:qT H1 ρ σ=O at rO k1 sh;refine⟨λi m Y H'=>m=ds.length-i/\i<=ds.length/\∃G' ρ',jD X.K z O G' H' ρ' Y/\zi gd F (ds.drop i) ρ'>o,⟨ds.length,by simp,EB _,z,ρ,rO,‹e2›⟩,?_⟩;rintro i m rW H2 ⟨rfl,hi,G2,UT,xI,S⟩;by_cases EH:i<ds.length
  .right
   have ed:ds.drop i=ds[i]::ds.drop (i+1):=cD EH;rw[ed]at S;obtain⟨I,e3,e4⟩:=aA.mp S;obtain⟨o3,e5,j⟩:=aA.mp e4;refine⟨it.go i H2 (xI.bs.gg.trans xI.bs.gh) EH,λY H'=>∃G' ρ',jD X.K z O G' H' ρ' Y/\zi gd F (ds.drop<|i+1) ρ'>o,λY H' h=>⟨ds.length-(i+1),01,rfl,EH,h⟩,λx H' y=>?_⟩;obtain⟨G3,t3,r3⟩:=it.yld i G2 H2 x H' xI.bs.gg xI.bs.gh EH y;refine⟨z,O,G3,UT,ds[i],I,xI.step t3,r3 _ (by simp[EH]),e3,λσ4 P8=>⟨z,O,G3,I,o3,P8,e5,?_⟩⟩
   cases o3 with
   |nx ρ'=>showλlM Z H5 MK=>⟨Z,ρ',MK,j⟩
   |ct ρ'=>showλlM Z H5 MK=>⟨Z,ρ',MK,j⟩
   |bk ρ'=>cases j;show k1
   |rt d=>cases j;show k1
   |ro d=>cases j;show k1
   |rm d ρ=>cases j;show k1
  .left
   have e:i=ds.length:=01
   subst e;rw[dH]at S;cases S;show⟨it.stop _ H2 (xI.bs.gg.trans xI.bs.gh)<|rA _,k1 rW G2 H2 xI⟩
noncomputable def bP(c:iF)(F:aC):Nat->lB->Option Out
 |0,_=>none
 |n+1,ρ=>(c ρ).bind λb=>if b=true then (F ρ).bind λo=>match o with
   |.nx ρ'=>bP c F n ρ'
   |.ct ρ'=>bP c F n ρ'
   |.bk ρ'=>some<|.nx ρ'
   |.rt d=>some<|.rt d
   |.ro s=>some<|.ro s
   |.rm d ρ=>some<|.rm d ρ
  else some (.nx ρ)
theorem zPk(n:Nat)(hp:PassesOwn (model X.prog X.w) X.A X.env X.xe)(hc:SB X c p)(hb:QJ X body F):SS X (.While c body [] pos) (λρ=>bP p F n ρ):=
 yg (zKZ hp hc hb) λE σ H=>by
  rintro⟨G0,H0,G,ρ,o,st,ef,k⟩;refine⟨λm I H'=>∃G' ρ',jD X.K G0 H0 G' H' ρ' I/\bP p F m ρ'>o,⟨n,G,ρ,st,ef⟩,?_⟩;rintro m rW H2 ⟨G2,U,xI,Y⟩
  cases m with
  |zero=>cases Y
  |succ m=>
   obtain⟨b,e1,z⟩:=aA.mp Y;refine⟨G2,U,b,xI.bs.gh,xI.er,e1,λS H3 t3=>?_⟩
   cases b with
   |false=>
    rw[if_neg cB]at z ⊢;cases z
    show k rW S H3<|xI.step t3
   |true=>
    rw[if_pos rfl]at z ⊢;obtain⟨Z,e5,j⟩:=aA.mp z;refine⟨λI H'=>∃G' ρ',jD X.K G0 H0 G' H' ρ' I/\bP p F m ρ'>o,λI H' h=>⟨m,mH _,h⟩,G0,H0,S,U,Z,xI.step t3,e5,?_⟩
    cases Z with
    |nx ρ'=>showλlM J H5 O=>⟨J,ρ',O,j⟩
    |ct ρ'=>showλlM J H5 O=>⟨J,ρ',O,j⟩
    |bk ρ'=>cases j;show k
    |rt d=>cases j;show k
    |ro d=>cases j;show k
    |rm d ρ=>cases j;show k
theorem zSq{K:Fg}{G:Hp}{a:Addr}{vs:List V}{ds:List D}(h:MF K G a vs)(r:HA K G ds vs):YM K G (Dp K a) ds where
 go:=λi H s hi=>⟨vs,vs[i]'(by rw[<- r.length];show hi),s.seq h,by simp[<- r.length,hi]⟩
 stop:=λi H s hi=>⟨vs,s.seq h,by rw[<- r.length];show hi⟩
 yld:=λi j H x H' s1 s hi y=>by
  obtain⟨rfl,y⟩:=y;refine⟨j,zf.refl s,λd e=>?_⟩;obtain⟨v,z,I⟩:=r.get e;have:=y vs<|(s1.trans s).seq h;rw[z]at this;cases this;show Rep.mono s1 _ _ I
theorem zVd{K:Fg}{G:Hp}{a:Addr}{vs:List V}{ds:List D}(h:aI K G a vs)(r:HA K G ds vs):YM K G (Dq K a) ds where
 go:=λi H s hi=>⟨vs,vs[i]'(by rw[<- r.length];show hi),yf s h,by simp[<- r.length,hi]⟩
 stop:=λi H s hi=>⟨vs,yf s h,by rw[<- r.length];show hi⟩
 yld:=λi j H x H' s1 s hi y=>by
  obtain⟨rfl,y⟩:=y;refine⟨j,zf.refl s,λd e=>?_⟩;obtain⟨v,z,I⟩:=r.get e;have:=y vs<|yf (s1.trans s) h;rw[z]at this;cases this;show Rep.mono s1 _ _ I
noncomputable def rng(lo:Int)(n:Nat):List D:=(uA n).map λ(i:Nat)=>D.int<|lo+(i:Int)
theorem zRL{K:Fg}{G:Hp}(lo:Int)(n:Nat):YM K G (L2.CY lo n) (rng lo n) where
 go:=λi H s hi=>by change i<n;simpa[rng] using hi
 stop:=λi H s hi=>by change n<=i;simpa[rng] using hi
 yld:=λi j H x H' s1 s hi y=>by
  obtain⟨rfl,rfl⟩:=y;refine⟨j,zf.refl s,λd e=>?_⟩;dsimp[rng,CA,iA,AG]at e hi;rw[iC hi]at e;cases e;show zv.mpr rfl
noncomputable def Dz:D->Option (List D)
 |.lst xs=>some xs
 |_=>none
noncomputable def Ea:D->Option (List D)
 |.tup xs=>some xs
 |_=>none
noncomputable def iL(f:dC):dD:=λρ=>(f ρ).bind Dz
noncomputable def iT(f:dC):dD:=λρ=>(f ρ).bind Ea
variable {tg:Expr}
theorem HV(h:SE X e f):SI X tg e (iL f):=Ce (zSJ h) λσ H R=>by
 rintro⟨G,ρ,ds,s,er,I,k⟩;obtain⟨d,z,j⟩:=aA.mp I
 cases d with
 |lst xs=>
  cases j;refine⟨G,ρ,_,s,er,z,λv G' H' t r=>?_⟩;obtain⟨a,vs,rfl,q,rs⟩:=cQ.mp r
  show⟨a,rfl,⟨vs,t.s.seq q⟩,k _ G' H' t<|zSq q rs⟩
 |_=>cases j
theorem TM(h:SE X e f):SI X tg e (iT f):=Ce (zU6 h) λσ H R=>by
 rintro⟨G,ρ,ds,s,er,I,k⟩;obtain⟨d,z,j⟩:=aA.mp I
 cases d with
 |tup xs=>
  cases j;refine⟨G,ρ,_,s,er,z,λv G' H' t r=>?_⟩;obtain⟨a,vs,rfl,q,rs⟩:=XS r
  show⟨a,rfl,⟨vs,yf t.s q⟩,k _ G' H' t<|zVd q rs⟩
 |_=>cases j
noncomputable def inR(j:Int):Bool:=decide (-(2 ^ 62)<=j)&&decide (j<2 ^ 62)
theorem bT(h:inR j=true): -(2 ^ 62)<=j/\j<2 ^ 62:=by simpa[inR] using h
noncomputable def UJ(f:dD):dD:=λρ=>(f ρ).bind λds=>match ds with
 | [.int j]=>if inR j=true then some (rng 0 j.toNat) else none
 |_=>none
def Xh(f:dD):dD:=λρ=>(f ρ).bind λds=>match ds with
 | [.int i,.int j]=>if (inR i&&inR j)=true then some (rng i (j-i).toNat) else none
 |_=>none
theorem yW{p pos:Pos}(S:Gl X "range")(hm:X.mg "range" = none)(ha:SA X [a] fl)(hs:starEach [a] X.env=[(false,eval a X.env)]:=by rfl):SI X tg (.Call (.Name "range" p) [a] [] pos) (UJ fl):=
 Ce (zMk S hm ha.pa hs) λσ H R=>by
  rintro⟨G,ρ,ds,s,er,O,k⟩;obtain⟨xs,J,z⟩:=aA.mp O;split at z
  .rename_i j;split at z
   .rename_i I;cases z;refine⟨G,ρ,_,s,er,J,λvs G' H' t r=>?_⟩;obtain⟨v,U,rfl,r1,r2⟩:=zV.mp r;have:=yB.mp r2;subst this;show⟨j,by rw[zv.mp r1],(bT I).1,(bT I).2,k _ G' H' t<|zRL _ _⟩
   .cases z
  .cases z
theorem zNE{p pos:Pos}(S:Gl X "range")(hm:X.mg "range" = none)(ha:SA X [a,b] fl)(hs:starEach [a,b] X.env=[(false,eval a X.env),(false,eval b X.env)]:=by rfl)(U:starEach [b] X.env=[(false,eval b X.env)]:=by rfl):SI X tg (.Call (.Name "range" p) [a,b] [] pos) (Xh fl):=
 Ce (zMl S hm ha.pa hs U) λσ H R=>by
  rintro⟨G,ρ,ds,s,er,O,k⟩;obtain⟨xs,J,z⟩:=aA.mp O;split at z
  .rename_i i j;split at z
   .rename_i I;cases z;rw[NB]at I;refine⟨G,ρ,_,s,er,J,λvs G' H' t r=>?_⟩;obtain⟨v,r',rfl,r1,r2⟩:=zV.mp r;obtain⟨v',Y,rfl,r3,Z⟩:=zV.mp r2;have:=yB.mp Z;subst this;show⟨i,j,by rw[zv.mp r1,zv.mp r3],⟨(bT I.1).1,(bT I.1).2,(bT I.2).1,(bT I.2).2⟩,k _ G' H' t<|zRL _ _⟩
   .cases z
  .cases z
noncomputable def gL(ρ:lB)(i:Nat):Option (List D):=match ρ[i]? with
 |some (.l xs)=>some xs
 |_=>none
theorem Cf{ρ:lB}(h:gL ρ i>xs):ρ[i]?>.l xs:=by
 unfold gL at h;split at h
 .cases h;assumption
 .cases h
end
noncomputable def AI(N:List Str)(F:aC)(ds:List D):Option D:=(F<|ds.map Sl.v++pA (N.length-ds.length) .un).bind λo=>match o with
 |.rt d=>some d
 |.nx _=>some .non
 |_=>none
theorem Ot{K:Fg}{G H:Hp}{N:List Str}{ds:List D}{vs:List V}(r:HA K G ds vs):Er K G H (ds.map Sl.v++pA (N.length-ds.length) .un) (L2.fM N vs):=by
 have O:=r.length
 have low:∀{i:Nat}{s:Sl},(ds.map Sl.v++pA (N.length-ds.length) .un)[i]?>s->s=.un\/∃d,s=.v d/\ds[i]?>d:=λ{i s} h=>by
  by_cases hi:i<ds.length
  .rw[XA ‹hi›,CA]at h
   cases q:ds[i]? with
   |none=>rw[q]at h;cases h
   |some d=>rw[q]at h;cases h;show .inr ⟨d,rfl,rfl⟩
  .rw[mB ‹hi›,HB]at h;split at h<;>cases h;show .inl rfl
 refine⟨by simp[L2.fM,O],λi d h=>?_,λi u h o=>?_,λi j s t a b ne h1 S h2 U q1 Y=>?_⟩
 .rcases low h with z|⟨d',z,q⟩
  .cases z
  .cases z;obtain⟨v,I,J⟩:=r.get q;have hi:i<vs.length:=(BA.mp I).1;refine⟨v,?_,J⟩;unfold L2.fM;rw[XA ‹hi›,CA,I];rfl
 .rcases low h with z|⟨d',z,q⟩<;>subst z<;>cases o
 .rcases low h1 with z|⟨d',z,q⟩<;>subst z<;>cases S
theorem zVe{P:Program}{w:World}{K:Fg}{mg:gF}{base:Heap}{x qual:Str}{st:Stmt}{fa:Addr}{fd:FuncData}{N ps:List Str}{k:Nat}{F:aC}{f:List D->Option D}
  (J:nN K x qual st fa fd) (S:zU N ps (zI st))
  (Y:∀(z:Value)(A:Around)(outer:List Env)(s:Shared)(H:Hp),IF k (A.deeper<|envOfC qual (zI st) s.heap.objs.size fa z)->QJ (QL EI P w K mg base N qual (zI st) fa z A outer s H E0).nox (yF st) F)
  (hf:∀ds d,ds.length=ps.length->f ds>d->AI N F ds>d):KI P w K mg base EI (k+1) fa fd ps (oV K f ps.length):=by
 refine J.ok S (λvs H Q E h=>?_) (λz A outer s H vs Q E hr h=>?_)
 .obtain⟨G,ds,d,_,r,I,_⟩:=h;rw[<- r.length,I]
 .obtain⟨G,ds,d,sm,r,I,U,kk⟩:=h;have h1:QJ (QL EI P w K mg base N qual (zI st) fa z A outer s H E).nox (yF st) F:=Y z A outer s H hr;refine⟨_,h1,?_⟩;obtain⟨o,O,j⟩:=aA.mp<|hf ds d I U;have er:=Ot (N:=N) (H:=H) r;refine⟨G,H,G,_,o,⟨er,⟨sm,zh.refl _,zh.refl _,λb o e n=>by rw[e]at n;cases n⟩,λi u a h1 h2 h3=>?_⟩,O,?_⟩
  .obtain⟨a',u',e3,e4,e5⟩:=er.ownAt h1 h2;exfalso;by_cases hi:i<ds.length
   .rw[XA ‹hi›,CA]at h1
    cases q:ds[i]? with
    |none=>rw[q]at h1;cases h1
    |some d=>rw[q]at h1;cases h1;cases h2
   .rw[mB ‹hi›,HB]at h1;split at h1<;>cases h1;cases h2
  .cases o with
   |rt d'=>
    cases j
    showλv G' H' b Z=>kk v G' H' ⟨b.gg,b.hh,b.gh,b.fr⟩ Z
   |nx ρ=>
    cases j
    showλuC G' H' SC=>kk .non G' H' ⟨SC.bs.gg,SC.bs.hh,SC.bs.gh,SC.bs.fr⟩<|bQ.mpr rfl
   |bk ρ=>cases j
   |ct ρ=>cases j
   |ro ρ=>cases j
   |rm d ρ=>cases j
end RD
namespace RD
open PySem PySem.Spec PyProof.Rows L2 SeqAt
mutual
def CD:D->D->Bool
 |.non,.non=>true
 |.bl a,.bl b=>a==b
 |.bl a,.int i=>(if a then 1 else 0)==i
 |.int i,.bl a=>i==(if a then 1 else 0)
 |.int i,.int j=>i==j
 |.str x,.str y=>x==y
 |.tup xs,.tup ys=>pF xs ys
 |.lst xs,.lst ys=>pF xs ys
 |_,_=>false
def pF:List D->List D->Bool
 | [],[]=>true
 |x::xs,y::ys=>CD x y&&pF xs ys
 |_,_=>false
end
mutual
def mG:D->Nat
 |.tup xs=>UH xs+1
 |.lst xs=>UH xs+1
 |_=>0
def UH:List D->Nat
 | []=>0
 |x::xs=>max (mG x)<|UH xs
end
mutual
theorem Af:∀d:D,CD d d=true
 |.non=>by simp[CD]
 |.bl _=>by simp[CD]
 |.int _=>by simp[CD]
 |.str _=>by simp[CD]
 |.tup xs=>by dsimp[CD];show nK xs
 |.lst xs=>by dsimp[CD];show nK xs
theorem nK:∀d:List D,pF d d=true
 | []=>by simp[pF]
 |x::xs=>by dsimp[pF,Af x,nK xs];rfl
end
theorem o5:∀{xs:List D}{i:Nat}{d:D},xs[i]?>d->mG d<=UH xs
 | [],_,_,h=>by simp at h
 |x::xs,0,d,h=>by simp at h;subst h;dsimp[UH];omega
 |x::xs,i+1,d,h=>by
  have:=o5 (xs:=xs) (i:=i) ‹h›;dsimp[UH];omega
noncomputable def RO(xs ys:List D)(j:Nat):Bool:=match xs[j]?,ys[j]? with
 |some x,some y=>CD x y
 |_,_=>true
theorem Qf:∀xs ys:List D,((uA<|min xs.length ys.length).all (RO xs ys)&&xs.length==ys.length)=pF xs ys
 | [],[]=>by simp[pF]
 | [],y::ys=>by simp[pF]
 |x::xs,[]=>by simp[pF]
 |x::xs,y::ys=>by
  have ih:=Qf xs ys;have j:min (x::xs).length (y::ys).length=min xs.length ys.length+1:=by dsimp[kA];omega
  have z:((uA<|min xs.length ys.length).map Nat.succ).all (RO (x::xs) (y::ys))=(uA<|min xs.length ys.length).all (RO xs ys):=by
   rw[mY]
   congr 1
  rw[j,xH,List.all_cons,z];have e3:RO (x::xs) (y::ys) 0=CD x y:=by simp[RO]
  have I:((x::xs).length==(y::ys).length)=(xs.length==ys.length):=by
   dsimp[kA];rw[AF];simp
  rw[e3,I,Bool.and_assoc,ih];dsimp[pF]
theorem zPm(xs ys:List D)(h:xs.length=ys.length):(uA xs.length).all (RO xs ys)=pF xs ys:=by
 rw[<- Qf xs ys,h,M7];simp
theorem zNF:∀xs ys:List D,xs.length≠ys.length->pF xs ys=false
 | [],[],h=>absurd rfl h
 | [],y::ys,h=>by simp[pF]
 |x::xs,[],h=>by simp[pF]
 |x::xs,y::ys,h=>by
  dsimp[pF,zNF xs ys (λz=>h<|by simp[z]),wL]
section
variable {X:Cx}{pins:rE}{σ:L2.St}{G H:Hp}{s:Shared}
theorem zKj(I:Inv X pins σ H s)(h1:aI X.K H a xs)(h2:MF X.K H a ys):False:=by
 obtain⟨_,_,⟨o,e,hc,_⟩,_⟩:=I.tuple h1;obtain⟨_,_,⟨o',z,e',j,_⟩,_⟩:=I.list h2;rw[e]at e';cases e';rw[hc]at j;show absurd j (by decide +kernel)
mutual
theorem Rep.inj(I:Inv X pins σ H s)(sm:zh G H):∀(d d':D)(v:V),Rep X.K G d v->Rep X.K G d' v->d=d'
 |.non,d',v,h,h'=>by
  have e:=bQ.mp h;subst e
  cases d'<;>simp_all [Rep]
 |.bl b,d',v,h,h'=>by
  have e:=yc.mp h;subst e
  cases d'<;>simp_all [Rep]
 |.int b,d',v,h,h'=>by
  have e:=zv.mp h;subst e
  cases d'<;>simp_all [Rep]
 |.str b,d',v,h,h'=>by
  have e:=qu.mp h;subst e
  cases d'<;>simp_all [Rep]
 |.tup ds,d',v,h,h'=>by
  obtain⟨a,vs,rfl,q,r⟩:=XS h
  cases d' with
  |tup z=>
   obtain⟨J,kH,e,q',j⟩:=XS h';cases e;have O:=I.tuple_inj (yf sm q)<|yf sm q';subst O
   rw[HA.inj I sm ds z vs r j]
  |lst z=>
   obtain⟨J,kH,e,q',j⟩:=cQ.mp h';cases e
   show(zKj I (yf sm q)<|sm.seq q').elim
  |_=>simp[Rep]at h'
 |.lst ds,d',v,h,h'=>by
  obtain⟨a,vs,rfl,q,r⟩:=cQ.mp h
  cases d' with
  |lst z=>
   obtain⟨J,kH,e,q',j⟩:=cQ.mp h';cases e;have O:=I.list_inj (sm.seq q)<|sm.seq q';subst O
   rw[HA.inj I sm ds z vs r j]
  |tup z=>
   obtain⟨J,kH,e,q',j⟩:=XS h';cases e
   show(zKj I (yf sm q')<|sm.seq q).elim
  |_=>simp[Rep]at h'
theorem HA.inj(I:Inv X pins σ H s)(sm:zh G H):∀(d d':List D)(v:List V),HA X.K G d v->HA X.K G d' v->d=d'
 |[],d',v,h,h'=>by
  have e:=yB.mp h;subst e
  cases d' with
  |nil=>rfl
  |cons _ _=>obtain⟨_,_,e,_⟩:=zV.mp h';cases e
 |d::ds,d',v,h,h'=>by
  obtain⟨x,r,rfl,a,b⟩:=zV.mp h
  cases d' with
  |nil=>cases yB.mp h'
  |cons d1 j=>
   obtain⟨O,J,e,z,b'⟩:=zV.mp h';cases e;rw[Rep.inj I sm d d1 x a z,HA.inj I sm ds j r b b']
end
theorem Ag{xs:List V}{us:List Value}{i:Nat}{u:Value}(r:yK xs us)(e:us[i]?>u):∃x,xs[i]?>x/\yj x u:=by
 have z:i<xs.length:=by rw[r.length];show(BA.mp e).1
 obtain⟨I,j,q⟩:=r.get (i:=i) (x:=xs[i]) (by simp[z]);rw[e]at j;cases j;show⟨xs[i],by simp[z],q⟩
theorem zKk{xs ys:List D}{vs ws:List V}{its z:List Value}(r1:HA X.K G xs vs)(q1:yK vs its)(r2:HA X.K G ys ws)(U:yK ws z){j:Nat}(h1:j<its.toArray.size)(h2:j<z.toArray.size):
  ∃x y v w,xs[j]?>x/\ys[j]?>y/\Rep X.K G x v/\Rep X.K G y w/\yj v its.toArray[j]/\yj w z.toArray[j]:=by
 obtain⟨v,I,p1⟩:=Ag (i:=j) (u:=its.toArray[j]) q1 (by simp at h1|-);obtain⟨w,J,p2⟩:=Ag (i:=j) (u:=z.toArray[j]) U (by simp at h2|-);obtain⟨x,e3,p3⟩:=r1.got I;obtain⟨y,O,S⟩:=r2.got J;show⟨x,y,v,w,e3,O,p3,S,p1,p2⟩
theorem Nv(A:Around):A.in1.units=A.units+1:=rfl
theorem Rl(I:Inv X pins σ H s)(sm:zh G H):∀(n:Nat)(A:Around)(x y:D)(v w:V)(u1 u2:Value),min (mG x) (mG y)<=n->A.units+n<cLine->PH X.K G H x v->PH X.K G H y w->yj v u1->yj w u2 ->
  RcAt A s u1 u2 (CD x y)/\RcNeAt A s u1 u2 (!CD x y)/\(Rep X.K G x v->Rep X.K G y w->EqAt A s u1 u2 (CD x y)):=by
 intro n
 induction n with
 |zero=>?_
 |succ n ih=>?_
 all_goals
  intro A x y v w u1 u2 hd hu rx S q1 O;have J:A.units<cLine:=01
  cases x with
  |non=>
   rw[rx.non]at q1;cases q1
   cases y with
   |non=>rw[S.non]at O;cases O;show⟨RcAt.none_none,RcNeAt.none_none,λ_ _=>EqAt.same _⟩
   |bl b=>rw[S.bl]at O;cases O;show⟨RcAt.none_bool b,RcNeAt.none_bool b,λ_ _=>EqAt.none_bool b⟩
   |int b=>rw[S.int]at O;obtain⟨t,rfl⟩:=O;show⟨RcAt.none_int b t,RcNeAt.none_int b t,λ_ _=>EqAt.none_int b t⟩
   |str b=>rw[S.str]at O;obtain⟨t,rfl⟩:=O;show⟨RcAt.none_str b t,RcNeAt.none_str b t,λ_ _=>EqAt.none_str b t⟩
   |tup ys=>obtain⟨a,vs,rfl,q,r⟩:=S.tup sm;cases O;obtain⟨its,_,p,_⟩:=I.tuple q;show⟨RcAt.none_tuple p J,RcNeAt.none_tuple p J,λ_ _=>EqAt.none_tuple p J⟩
   |lst ys=>obtain⟨a,vs,rfl,q,r⟩:=S.list sm;cases O;obtain⟨its,_,p,_⟩:=I.list q;show⟨RcAt.none_list p.isList J,RcNeAt.none_list p.isList J,λ_ _=>EqAt.none_list p.isList J⟩
  |bl c=>
   rw[rx.bl]at q1;cases q1
   cases y with
   |non=>rw[S.non]at O;cases O;show⟨RcAt.bool_none c,RcNeAt.bool_none c,λ_ _=>EqAt.bool_none c⟩
   |bl b=>rw[S.bl]at O;cases O;show⟨RcAt.bool_bool c b,RcNeAt.bool_bool c b,λ_ _=>EqAt.bool_bool c b⟩
   |int b=>rw[S.int]at O;obtain⟨t,rfl⟩:=O;show⟨RcAt.bool_int c b t,RcNeAt.bool_int c b t,λ_ _=>EqAt.bool_int c b t⟩
   |str b=>rw[S.str]at O;obtain⟨t,rfl⟩:=O;show⟨RcAt.bool_str c b t,RcNeAt.bool_str c b t,λ_ _=>EqAt.bool_str c b t⟩
   |tup ys=>obtain⟨a,vs,rfl,q,r⟩:=S.tup sm;cases O;obtain⟨its,_,p,_⟩:=I.tuple q;show⟨RcAt.bool_tuple c p J,RcNeAt.bool_tuple c p J,λ_ _=>EqAt.bool_tuple c p J⟩
   |lst ys=>obtain⟨a,vs,rfl,q,r⟩:=S.list sm;cases O;obtain⟨its,_,p,_⟩:=I.list q;show⟨RcAt.bool_list c p.isList J,RcNeAt.bool_list c p.isList J,λ_ _=>EqAt.bool_list c p.isList J⟩
  |int c=>
   rw[rx.int]at q1;obtain⟨t1,rfl⟩:=q1
   cases y with
   |non=>rw[S.non]at O;cases O;show⟨RcAt.int_none c t1,RcNeAt.int_none c t1,λ_ _=>EqAt.int_none c t1⟩
   |bl b=>rw[S.bl]at O;cases O;show⟨RcAt.int_bool c t1 b,RcNeAt.int_bool c t1 b,λ_ _=>EqAt.int_bool c t1 b⟩
   |int b=>rw[S.int]at O;obtain⟨t,rfl⟩:=O;show⟨RcAt.int_int c t1 b t,RcNeAt.int_int c t1 b t,λ_ _=>EqAt.int_int c t1 b t⟩
   |str b=>rw[S.str]at O;obtain⟨t,rfl⟩:=O;show⟨RcAt.int_str c t1 b t,RcNeAt.int_str c t1 b t,λ_ _=>EqAt.int_str c t1 b t⟩
   |tup ys=>obtain⟨a,vs,rfl,q,r⟩:=S.tup sm;cases O;obtain⟨its,_,p,_⟩:=I.tuple q;show⟨RcAt.int_tuple c t1 p J,RcNeAt.int_tuple c t1 p J,λ_ _=>EqAt.int_tuple c t1 p J⟩
   |lst ys=>obtain⟨a,vs,rfl,q,r⟩:=S.list sm;cases O;obtain⟨its,_,p,_⟩:=I.list q;show⟨RcAt.int_list c t1 p.isList J,RcNeAt.int_list c t1 p.isList J,λ_ _=>EqAt.int_list c t1 p.isList J⟩
  |str c=>
   rw[rx.str]at q1;obtain⟨t1,rfl⟩:=q1
   cases y with
   |non=>rw[S.non]at O;cases O;show⟨RcAt.str_none c t1,RcNeAt.str_none c t1,λ_ _=>EqAt.str_none c t1⟩
   |bl b=>rw[S.bl]at O;cases O;show⟨RcAt.str_bool c t1 b,RcNeAt.str_bool c t1 b,λ_ _=>EqAt.str_bool c t1 b⟩
   |int b=>rw[S.int]at O;obtain⟨t,rfl⟩:=O;show⟨RcAt.str_int c t1 b t,RcNeAt.str_int c t1 b t,λ_ _=>EqAt.str_int c t1 b t⟩
   |str b=>rw[S.str]at O;obtain⟨t,rfl⟩:=O;show⟨RcAt.str_str c t1 b t,RcNeAt.str_str c t1 b t,λ_ _=>EqAt.str_str c t1 b t⟩
   |tup ys=>obtain⟨a,vs,rfl,q,r⟩:=S.tup sm;cases O;obtain⟨its,_,p,_⟩:=I.tuple q;show⟨RcAt.str_tuple c t1 p J,RcNeAt.str_tuple c t1 p J,λ_ _=>EqAt.str_tuple c t1 p J⟩
   |lst ys=>obtain⟨a,vs,rfl,q,r⟩:=S.list sm;cases O;obtain⟨its,_,p,_⟩:=I.list q;show⟨RcAt.str_list c t1 p.isList J,RcNeAt.str_list c t1 p.isList J,λ_ _=>EqAt.str_list c t1 p.isList J⟩
  |tup xs=>
   obtain⟨a1,NK,rfl,Iu,Z1⟩:=rx.tup sm;cases q1;obtain⟨U,Z3,p1,_⟩:=I.tuple Iu
   cases y with
   |non=>rw[S.non]at O;cases O;show⟨RcAt.tuple_none p1 J,RcNeAt.tuple_none p1 J,λ_ _=>EqAt.tuple_none p1 J⟩
   |bl b=>rw[S.bl]at O;cases O;show⟨RcAt.tuple_bool b p1 J,RcNeAt.tuple_bool b p1 J,λ_ _=>EqAt.tuple_bool b p1 J⟩
   |int b=>rw[S.int]at O;obtain⟨t,rfl⟩:=O;show⟨RcAt.tuple_int b t p1 J,RcNeAt.tuple_int b t p1 J,λ_ _=>EqAt.tuple_int b t p1 J⟩
   |str b=>rw[S.str]at O;obtain⟨t,rfl⟩:=O;show⟨RcAt.tuple_str b t p1 J,RcNeAt.tuple_str b t p1 J,λ_ _=>EqAt.tuple_str b t p1 J⟩
   |lst ys=>obtain⟨a,vs,rfl,q,r⟩:=S.list sm;cases O;obtain⟨its,_,p,_⟩:=I.list q;show⟨RcAt.tuple_list p1 p.isList J,RcNeAt.tuple_list p1 p.isList J,λ_ _=>EqAt.tuple_list p1 p.isList J⟩
   |tup ys=>
    first
    |(exfalso;dsimp[mG]at hd;omega)
    |(obtain⟨a2,sO,rfl,Iv,j2⟩:=S.tup sm;cases O;obtain⟨Y,KR,p2,_⟩:=I.tuple Iv
      have he:∀j (h1:j<U.toArray.size) (h2:j<Y.toArray.size),EqAt A.in1 s U.toArray[j] Y.toArray[j] (RO xs ys j):=λj h1 h2=>by
       obtain⟨x,y,v,w,e1,e2,r1,r2,z1,z2⟩:=zKk Z1 Z3 j2 KR h1 h2;have d1:=o5 e1;have d2:=o5 e2;have:=(ih A.in1 x y v w _ _ (by dsimp[mG]at hd;omega) (by rw[Nv];omega) (.fr r1) (.fr r2) z1 z2).2.2 r1 r2;simpa only[RO,e1,e2] using this
      have el:((uA<|min U.toArray.size Y.toArray.size).all (RO xs ys)&&U.toArray.size==Y.toArray.size)=CD (.tup xs) (.tup ys):=by
       have l1:=Z1.length;have l2:=j2.length;have l3:=Z3.length;have l4:=KR.length;rw[sA,sA,<- l3,<- l4,<- l1,<- l2];dsimp[CD];show Qf xs ys
      have e1:RcAt A s (.ref a1) (.ref a2) (CD (.tup xs)<|.tup ys):=by rw[<- el];show RcAt.tuples p1 p2 J he
      have e2:RcNeAt A s (.ref a1) (.ref a2) (!CD (.tup xs) (.tup ys)):=by rw[<- el];show RcNeAt.tuples p1 p2 J he
      refine⟨e1,e2,λh1 h2=>?_⟩;by_cases z:a1=a2
      .subst z;have:=Rep.inj I sm _ _ _ h1 h2;rw[<- this,Af];show EqAt.same _
      .show EqAt.of_refs z e1)
  |lst xs=>
   obtain⟨a1,NK,rfl,Iu,Z1⟩:=rx.list sm;cases q1;obtain⟨U,Z3,p1,_⟩:=I.list Iu
   cases y with
   |non=>rw[S.non]at O;cases O;show⟨RcAt.list_none p1.isList J,RcNeAt.list_none p1.isList J,λ_ _=>EqAt.list_none p1.isList J⟩
   |bl b=>rw[S.bl]at O;cases O;show⟨RcAt.list_bool b p1.isList J,RcNeAt.list_bool b p1.isList J,λ_ _=>EqAt.list_bool b p1.isList J⟩
   |int b=>rw[S.int]at O;obtain⟨t,rfl⟩:=O;show⟨RcAt.list_int b t p1.isList J,RcNeAt.list_int b t p1.isList J,λ_ _=>EqAt.list_int b t p1.isList J⟩
   |str b=>rw[S.str]at O;obtain⟨t,rfl⟩:=O;show⟨RcAt.list_str b t p1.isList J,RcNeAt.list_str b t p1.isList J,λ_ _=>EqAt.list_str b t p1.isList J⟩
   |tup ys=>obtain⟨a,vs,rfl,q,r⟩:=S.tup sm;cases O;obtain⟨its,_,p,_⟩:=I.tuple q;show⟨RcAt.list_tuple p1.isList p J,RcNeAt.list_tuple p1.isList p J,λ_ _=>EqAt.list_tuple p1.isList p J⟩
   |lst ys=>
    first
    |(exfalso;dsimp[mG]at hd;omega)
    |(obtain⟨a2,sO,rfl,Iv,j2⟩:=S.list sm;cases O;obtain⟨Y,KR,p2,_⟩:=I.list Iv
      have l1:=Z1.length;have l2:=j2.length;have l3:=Z3.length;have l4:=KR.length
      have he:∀j (h1:j<U.toArray.size) (h2:j<Y.toArray.size),EqAt A.in1 s U.toArray[j] Y.toArray[j] (RO xs ys j):=λj h1 h2=>by
       obtain⟨x,y,v,w,e1,e2,r1,r2,z1,z2⟩:=zKk Z1 Z3 j2 KR h1 h2;have d1:=o5 e1;have d2:=o5 e2;have:=(ih A.in1 x y v w _ _ (by dsimp[mG]at hd;omega) (by rw[Nv];omega) (.fr r1) (.fr r2) z1 z2).2.2 r1 r2;simpa only[RO,e1,e2] using this
      have El:RcAt A s (.ref a1) (.ref a2) (CD (.lst xs)<|.lst ys)/\RcNeAt A s (.ref a1) (.ref a2) (!CD (.lst xs) (.lst ys)):=by
       by_cases hz:U.length=Y.length
       .have hsz:U.toArray.size=Y.toArray.size:=by rw[sA,sA];show hz
        have el:(uA U.toArray.size).all (RO xs ys)=CD (.lst xs) (.lst ys):=by
         rw[sA,<- l3,<- l1];dsimp[CD];show zPm xs ys 01
        rw[<- el];show⟨RcAt.lists p1.isList p2.isList hsz J he,RcNeAt.lists p1.isList p2.isList hsz J he⟩
       .have hsz:(U.toArray.size != Y.toArray.size)=true:=by rw[sA,sA];simpa using hz
        have el:CD (.lst xs) (.lst ys)=false:=by dsimp[CD];show zNF xs ys 01
        rw[el];show⟨RcAt.lists_lengths p1.isList p2.isList hsz J,RcNeAt.lists_lengths p1.isList p2.isList hsz J⟩
      refine⟨El.1,El.2,λh1 h2=>?_⟩;by_cases z:a1=a2
      .subst z;have:=Rep.inj I sm _ _ _ h1 h2;rw[<- this,Af];show EqAt.same _
      .show EqAt.of_refs z El.1)
end
noncomputable def AE(x y:D):Option D:=if min (mG x) (mG y)<=20 then some (.bl<|CD x y) else none
noncomputable def EG(x y:D):Option D:=if min (mG x) (mG y)<=20 then some (.bl<|!CD x y) else none
section
variable {X:Cx}
theorem yu(O:X.A.units+30<cLine):ZI X (compareOp .Eq) (rD X.K AE):=by
 intro pins s σ H x y v u Q I z J ⟨G,dx,j,d,sm,r1,r2,e,k⟩;unfold AE at e;split at e
 .rename_i hd;cases e;show(Rl I sm 20 X.A dx j x y v u hd 01 r1 r2 z J).1 _ _ _ _ (WR I (k _ G H (zf.refl sm)<|yc.mpr rfl) rfl)
 .cases e
theorem m6(O:X.A.units+30<cLine):ZI X (compareOp .NotEq) (rD X.K EG):=by
 intro pins s σ H x y v u Q I z J ⟨G,dx,j,d,sm,r1,r2,e,k⟩;unfold EG at e;split at e
 .rename_i hd;cases e;show(Rl I sm 20 X.A dx j x y v u hd 01 r1 r2 z J).2.1 _ _ _ _ (WR I (k _ G H (zf.refl sm)<|yc.mpr rfl) rfl)
 .cases e
open Classical in
def mR(ds:List D)(us:List Value)(dx:D)(u:Value):Bool:=decide (∃(i:Nat)(d:D),us[i]?>u/\ds[i]?>d/\CD d dx=true)
open Classical in
theorem Qg{pins:rE}(I:Inv X pins σ H s)(sm:zh G H){ds:List D}{vs:List V}{us:List Value}(r:HA X.K G ds vs)(q:yK vs us)(dx:D){i:Nat}{u:Value}(h:us[i]?>u)(hd:ds[i]?>d):mR ds us dx u=CD d dx:=by
 unfold mR
 cases e:CD d dx with
 |true=>show decide_eq_true ⟨i,d,h,hd,e⟩
 |false=>
  refine decide_eq_false ?_;rintro⟨j,d',h',U,e'⟩;obtain⟨v1,J,r1⟩:=r.get hd;obtain⟨v2,O,r2⟩:=r.get U;obtain⟨Y,e3,q1⟩:=q.get J;obtain⟨Z,z,S⟩:=q.get O;rw[h]at e3;cases e3;rw[h']at z;cases z;have:=q1.inj S;subst this;have:=Rep.inj I sm _ _ _ r1 r2;subst this;rw[e]at e';cases e'
theorem zKl{pins:rE}(I:Inv X pins σ H s)(sm:zh G H){ds:List D}{vs:List V}{us:List Value}(r:HA X.K G ds vs)(q:yK vs us)(dx:D):us.toArray.any (mR ds us dx)=ds.any λd=>CD d dx:=by
 rw[AF];dsimp[List.any_toArray,eE];constructor
 .rintro⟨u,J,h⟩;obtain⟨i,hi,rfl⟩:=iD.mp J;obtain⟨v,z,p1⟩:=Ag (i:=i) (u:=us[i]) q (by simp[hi]);obtain⟨d,j,p2⟩:=r.got z;rw[Qg I sm r q dx (i:=i) (u:=us[i]) (by simp[hi]) j]at h;show⟨d,xA j,h⟩
 .rintro⟨d,hd,h⟩;obtain⟨i,hi,rfl⟩:=iD.mp hd;obtain⟨v,z,p1⟩:=r.get (i:=i) (d:=ds[i]) (by simp[hi]);obtain⟨u,j,p2⟩:=q.get z;refine⟨u,xA j,?_⟩;rw[Qg I sm r q dx (i:=i) (d:=ds[i]) j<|by simp[hi]];show h
noncomputable def QM(x y:D):Option D:=if mG x<=20 then match y with
  |.tup ys=>some (.bl<|ys.any λd=>CD d x)
  |.lst ys=>some (.bl<|ys.any λd=>CD d x)
  |_=>none
 else none
def Zl(K:Fg)(op:D->D->Option D):R2:=λx y H Q=>∃G dx dy d,zh G H/\Rep K G dx x/\PH K G H dy y/\op dx dy>d/\∀v G' H',zf G H G' H'->Rep K G' d v->Q v H'
theorem zKm{pins:rE}(I:Inv X pins σ H s)(sm:zh G H)(S:X.A.units+30<cLine){ds:List D}{vs:List V}{us:List Value}(r:HA X.K G ds vs)(q:yK vs us){u:Value}(j:Rep X.K G dx x)(O:yj x u)(hd:mG dx<=20):∀y,y∈us.toArray->EqAt X.A.in1 s y u (mR ds us dx y):=λy hy=>by
 obtain⟨i,hi,rfl⟩:=iD.mp ‹hy›;obtain⟨v,z,p1⟩:=Ag (i:=i) (u:=us[i]) q (by simp[hi]);obtain⟨d,J,p2⟩:=r.got z;rw[Qg I sm r q dx (i:=i) (u:=us[i]) (by simp[hi]) J];show(Rl I sm 20 X.A.in1 d dx v x us[i] u 01 (by rw[Nv];omega) (.fr p2) (.fr j) p1 O).2.2 p2 j
theorem zRM(z:X.A.units+30<cLine):ZI X (compareOp .In) (Zl X.K QM):=by
 intro pins s σ H x y v u Q I J O ⟨G,dx,S,d,sm,r1,r2,e,k⟩;unfold QM at e;split at e
 .rename_i hd
  cases S with
  |tup ys=>
   cases e;obtain⟨a,vs,rfl,q,r⟩:=r2.tup sm;cases O;obtain⟨its,j,p,_⟩:=I.tuple q;refine in_tupleAt _ p (zKm I sm z r j r1 J hd) ?_;rw[zKl I sm r j]
   show(WR I (k _ G H (zf.refl sm)<|yc.mpr rfl) rfl)
  |lst ys=>
   cases e;obtain⟨a,vs,rfl,q,r⟩:=r2.list sm;cases O;obtain⟨its,j,p,_⟩:=I.list q;refine in_listAt _ p.isList (zKm I sm z r j r1 J hd) ?_;rw[zKl I sm r j]
   show(WR I (k _ G H (zf.refl sm)<|yc.mpr rfl) rfl)
  |_=>cases e
 .cases e
variable {a b:Expr}{f g:dC}{pos:Pos}
theorem zRN{K:Fg}{op:D->D->Option D}{σ:L2.St}{H:Hp}{Q:VK}(h:tE K (b2 f g op) σ H Q):tV (Zl K op) (tE K f) (tR K g) σ H Q:=by
 obtain⟨G,ρ,d,s,er,j,k⟩:=h;obtain⟨x,J,j⟩:=aA.mp j;obtain⟨y,O,j⟩:=aA.mp j;refine⟨G,ρ,x,s,er,J,λS z H1 t1 r1=>⟨z,ρ,y,t1.s,er.step t1,O,λU I H2 t2 r2=>?_⟩⟩;show⟨I,x,y,d,t2.s,Rep.mono t2.g _ _ r1,r2,j,λv G' H' t r=>k v G' H' ((t1.trans t2).trans t) r⟩
theorem zVf(j:X.A.units+30<cLine)(ha:SE X a f)(hb:SR X b g)(hm:behindInMarks .In b=false):SE X (.Compare a [.In] [b] pos) (b2 f g QM):=WF (zMn (zRM j) ha hb hm) λ_ _ _ h=>zRN h
theorem S2(O:X.A.units+30<cLine)(ha:SE X a f)(hb:SR X b g)(hm:behindInMarks .In b=false):SB X (.Compare a [.In] [b] pos) (bB<|b2 f g QM):=
 UV (Qb (zRM O) ha hb hm) λσ H Q=>by
  rintro⟨G,ρ,d,s,er,J,k⟩;obtain⟨x,z,I⟩:=aA.mp J;have e3:=j6 I;subst e3;show zRN ⟨G,ρ,_,s,er,z,λv G' H' t r=>⟨d,yc.mp r,k G' H' t⟩⟩
noncomputable def Ie:D->D->Option D
 |.int i,.int j=>some<|.bl<|decide<|i<j
 |.str i,.str j=>some<|.bl<|decide<|i.cps.toList<j.cps.toList
 |_,_=>none
noncomputable def jR:D->D->Option D
 |.int i,.int j=>some<|.bl<|decide<|j<i
 |_,_=>none
theorem zRO:ZI X (compareOp .Lt) (rD X.K Ie):=by
 intro pins s σ H x y v u Q I z J ⟨G,dx,O,d,sm,r1,r2,e,k⟩
 cases dx with
 |int i=>cases O with
  |int j=>cases e;rw[r1.int]at z;rw[r2.int]at J;obtain⟨t,rfl⟩:=z;obtain⟨t',rfl⟩:=J;show lt_int<|WR I (k _ G H (zf.refl sm)<|yc.mpr rfl) rfl
  |_=>cases e
 |str i=>cases O with
  |str j=>cases e;rw[r1.str]at z;rw[r2.str]at J;obtain⟨t,rfl⟩:=z;obtain⟨t',rfl⟩:=J;show lt_str<|WR I (k _ G H (zf.refl sm)<|yc.mpr rfl) rfl
  |_=>cases e
 |_=>cases e
theorem GX:ZI X (compareOp .Gt) (rD X.K jR):=by
 intro pins s σ H x y v u Q I z J ⟨G,dx,O,d,sm,r1,r2,e,k⟩
 cases dx with
 |int i=>cases O with
  |int j=>cases e;rw[r1.int]at z;rw[r2.int]at J;obtain⟨t,rfl⟩:=z;obtain⟨t',rfl⟩:=J;show gt_int<|WR I (k _ G H (zf.refl sm)<|yc.mpr rfl) rfl
  |_=>cases e
 |_=>cases e
noncomputable def Hx(x y:D):Option D:=match y with
 |.non=>some (.bl (match x with | .non=>true|_=>false))
 |.bl b=>some (.bl (match x with | .bl c=>c==b|_=>false))
 |_=>none
theorem zRP:ZI X (compareOp .Is) (rD X.K Hx):=by
 intro pins s σ H x y v u Q I j z ⟨G,dx,O,d,sm,r1,r2,e,k⟩;have fin:∀{c J:Bool},d=.bl c->c=J->EP X pins σ Q (.bool J) s:=λ{c J} S U=>by subst U;subst S;show(WR I (k _ G H (zf.refl sm)<|yc.mpr rfl) rfl)
 cases O with
 |non=>
  rw[r2.non]at z;cases z;refine is_none_gen ?_
  cases dx with
  |non=>rw[r1.non]at j;cases j;cases e;show fin rfl rfl
  |bl _=>rw[r1.bl]at j;cases j;cases e;show fin rfl rfl
  |int _=>rw[r1.int]at j;obtain⟨t,rfl⟩:=j;cases e;show fin rfl rfl
  |str _=>rw[r1.str]at j;obtain⟨t,rfl⟩:=j;cases e;show fin rfl rfl
  |tup _=>obtain⟨a,vs,rfl,_⟩:=r1.tup sm;cases j;cases e;show fin rfl rfl
  |lst _=>obtain⟨a,vs,rfl,_⟩:=r1.list sm;cases j;cases e;show fin rfl rfl
 |bl b=>
  rw[r2.bl]at z;cases z
  cases dx with
  |non=>rw[r1.non]at j;cases j;cases e;show wpAny_is_plain rfl<|fin rfl rfl
  |bl c=>rw[r1.bl]at j;cases j;cases e;show wpAny_is_plain rfl (fin rfl (by cases b<;>cases c<;>rfl))
  |int _=>rw[r1.int]at j;obtain⟨t,rfl⟩:=j;cases e;show wpAny_is_plain rfl<|fin rfl rfl
  |str _=>rw[r1.str]at j;obtain⟨t,rfl⟩:=j;cases e;show wpAny_is_plain rfl<|fin rfl rfl
  |tup _=>obtain⟨a,vs,rfl,_⟩:=r1.tup sm;cases j;cases e;show wpAny_is_plain rfl<|fin rfl rfl
  |lst _=>obtain⟨a,vs,rfl,_⟩:=r1.list sm;cases j;cases e;show wpAny_is_plain rfl<|fin rfl rfl
 |_=>cases e
end
end RD
namespace RD
open PySem PySem.Spec PyProof.Rows L2 SeqAt
section
variable {X:Cx}{a b:Expr}{f g:dC}{fl:dD}{pos:Pos}
theorem VV{n:Nat}(h:n<=1000000):n<=sizeLine:=vA h 02
noncomputable def qG:D->D->Option D
 |.int i,.int j=>some<|.int<|i+j
 |.str i,.str j=>if i.length+j.length<=1000000 then some (.str<|i++j) else none
 |.tup xs,.tup ys=>if xs.length+ys.length<=1000000 then some (.tup<|xs++ys) else none
 |_,_=>none
noncomputable def OK:D->D->Option D
 |.int i,.int j=>some<|.int<|i-j
 |_,_=>none
noncomputable def iQ:D->D->Option D
 |.int i,.int j=>if (-(2 ^ 64)<i/\i<2 ^ 64)\/(-(2 ^ 64)<j/\j<2 ^ 64) then some (.int<|i*j) else none
 |_,_=>none
noncomputable def jM:D->D->Option D
 |.int i,.int j=>if 0<j then some (.int<|i%j) else none
 |_,_=>none
noncomputable def Sm:D->D->Option D
 |.int i,.int j=>if 0<j/\j<1073741824 then some (.int<|i/j) else none
 |_,_=>none
theorem zSr{prog:Program}{w:World}{A:Around}{E:vD}{s:Shared}{t b:Addr}{ws:List Value}{Q:vD}(U:mP s.heap t ([]:List Value).toArray)(hb:mP s.heap b ws.toArray)(h1:Q (.ref b) s):
  wpAny (model prog w) A (binaryOp .Add (.ref t)<|.ref b) Q E s:=by
 obtain⟨⟨cls,dd,data,Z⟩,J,hc,n,hd⟩:=id U;obtain⟨⟨UY,O,data2,S⟩,I,z,Y,j⟩:=id hb;simp only at hc hd z j;subst hc hd z j
 show cL ⟨_,J,rfl⟩ ⟨_,I,rfl⟩ ZL OO YG BG (lG _ _)
   (tuple_addW0 t b _ ws.toArray n Y dd O Z S rfl) ⟨J,I,h1⟩
theorem zX:ZI X (binaryOp .Add) (rD X.K qG):=by
 intro pins s σ H x y v u Q I J O ⟨G,dx,S,d,sm,r1,r2,e,k⟩
 cases dx with
 |int i=>cases S with
  |int j=>cases e;rw[r1.int]at J;rw[r2.int]at O;obtain⟨t,rfl⟩:=J;obtain⟨t',rfl⟩:=O;show add_int ⟨.int<|i+j,H,I.tok _,⟨_,rfl⟩,k _ G H (zf.refl sm)<|zv.mpr rfl⟩
  |_=>cases e
 |str i=>cases S with
  |str j=>
   dsimp[qG]at e;split at e
   .rename_i hz;cases e;rw[r1.str]at J;rw[r2.str]at O;show zLj pins s σ H _ _ v u Q I J O ⟨i,j,rfl,rfl,VV hz,k _ G H (zf.refl sm)<|qu.mpr rfl⟩
   .cases e
  |_=>cases e
 |tup xs=>cases S with
  |tup ys=>
   dsimp[qG]at e;split at e
   .rename_i hz;cases e;obtain⟨a1,U,rfl,q1,w1⟩:=r1.tup sm;obtain⟨a2,sO,rfl,Y,Z⟩:=r2.tup sm;have l1:=w1.length;have l2:=Z.length
    cases U with
    |nil=>
     cases J;cases O;obtain⟨its,vv,p1,_⟩:=I.tuple q1;obtain⟨aF,KR,p2,_⟩:=I.tuple Y;cases vv;have hx:xs=[]:=YB.mp l1;subst hx;refine zSr p1 p2 ⟨.ref a2,H,I,rfl,k _ G H (zf.refl sm) ?_⟩
     simpa using r2.rep (λ_ z=>by cases z)
    |cons v1 U=>
     refine zSX pins s σ H _ _ v u Q I J O ⟨a1,a2,_,sO,rfl,rfl,q1,Y,by simp,VV<|01,λz=>?_,λ_ p hp=>?_⟩
     .subst z;have hy:ys=[]:=YB.mp l2;subst hy;refine k _ G H (zf.refl sm) ?_;simpa using r1.rep (λ_ z=>by cases z)
     .show k _ _ _ (zf.new sm hp)<|LR.mpr ⟨p,_,rfl,zL,HA.mono (yM<|sm.free hp) _ _<|w1.append Z⟩
   .cases e
  |_=>cases e
 |_=>cases e
theorem qw:ZI X (binaryOp .Sub) (rD X.K OK):=by
 intro pins s σ H x y v u Q I J O ⟨G,dx,z,d,sm,r1,r2,e,k⟩
 cases dx with
 |int i=>cases z with
  |int j=>cases e;show zU9 pins s σ H x y v u Q I J O ⟨i,j,r1.int,r2.int,k _ G H (zf.refl sm)<|zv.mpr rfl⟩
  |_=>cases e
 |_=>cases e
theorem YS:ZI X (binaryOp .Mult) (rD X.K iQ):=by
 intro pins s σ H x y v u Q I J O ⟨G,dx,z,d,sm,r1,r2,e,k⟩
 cases dx with
 |int i=>cases z with
  |int j=>
   dsimp[iQ]at e;split at e
   .rename_i hz;cases e;show zVA pins s σ H x y v u Q I J O ⟨i,j,r1.int,r2.int,hz,k _ G H (zf.refl sm)<|zv.mpr rfl⟩
   .cases e
  |_=>cases e
 |_=>cases e
theorem YO:ZI X (binaryOp .Mod) (rD X.K jM):=by
 intro pins s σ H x y v u Q I J O ⟨G,dx,z,d,sm,r1,r2,e,k⟩
 cases dx with
 |int i=>cases z with
  |int j=>
   dsimp[jM]at e;split at e
   .rename_i hz;cases e;show zVB pins s σ H x y v u Q I J O ⟨i,j,r1.int,r2.int,hz,k _ G H (zf.refl sm)<|zv.mpr rfl⟩
   .cases e
  |_=>cases e
 |_=>cases e
theorem zPo:ZI X (binaryOp .FloorDiv) (rD X.K Sm):=by
 intro pins s σ H x y v u Q I J O ⟨G,dx,z,d,sm,r1,r2,e,k⟩
 cases dx with
 |int i=>cases z with
  |int j=>
   dsimp[Sm]at e;split at e
   .rename_i hz;cases e;show zSK pins s σ H x y v u Q I J O ⟨i,j,r1.int,r2.int,hz,k _ G H (zf.refl sm)<|zv.mpr rfl⟩
   .cases e
  |_=>cases e
 |_=>cases e
noncomputable def ZV:D->Option D
 |.int i=>some<|.int (-i)
 |_=>none
theorem r6(ha:SR X a f):SE X (.UnaryOp .USub a pos) (b1 f ZV):=WF (M1 (r:=λx H Q=>∃i,x=.int i/\Q (.int (-i)) H) zVC ha) λσ H Q=>by
 rintro⟨G,ρ,d,s,er,j,k⟩;obtain⟨d1,I,j⟩:=aA.mp j
 cases d1 with
 |int i=>cases j;show⟨G,ρ,_,s,er,I,λJ z H1 t1 r1=>⟨i,r1.int,k _ z H1 t1<|zv.mpr rfl⟩⟩
 |_=>cases j
noncomputable def zy(x y:D):Option (List D):=match x,y with
 |.lst xs,.lst ys=>if xs.length+ys.length<=1000000 then some (xs++ys) else none
 |_,_=>none
noncomputable def nU(f g:dC)(op:D->D->Option (List D)):dD:=λρ=>(f ρ).bind λx=>(g ρ).bind λy=>op x y
def rF(K:Fg)(op:D->D->Option (List D)):R2:=λx y H Q=>∃G dx dy xs,zh G H/\PH K G H dx x/\PH K G H dy y/\op dx dy>xs/\∀a vs G' H',zf G H G' H'->H a=none->G' a=none->H' a>.lst vs->HA K G' xs vs->Q (.ref a) H'
theorem zVg{K:Fg}{op:D->D->Option (List D)}{σ:L2.St}{H:Hp}{Q:VK}(h:tF K (nU f g op) σ H Q):tV (rF K op) (tR K f) (tR K g) σ H Q:=by
 obtain⟨G,ρ,d,s,er,j,k⟩:=h;obtain⟨x,J,j⟩:=aA.mp j;obtain⟨y,O,j⟩:=aA.mp j;refine⟨G,ρ,x,s,er,J,λS z H1 t1 r1=>⟨z,ρ,y,t1.s,er.step t1,O,λU I H2 t2 r2=>?_⟩⟩;show⟨I,x,y,d,t2.s,r1.step t2,r2,j,λa vs G' H' t h1 h2 h3 r=>k a vs G' H' ((t1.trans t2).trans t) ((t1.trans t2).h.free h1) h2 h3 r⟩
theorem zSs:ZI X (binaryOp .Add) (rF X.K zy):=by
 intro pins s σ H x y v u Q I rx ry ⟨G,dx,dy,d,sm,r1,r2,e,k⟩
 cases dx with
 |lst xs=>cases dy with
  |lst ys=>
   dsimp[zy]at e;split at e
   .rename_i hz;cases e;obtain⟨a1,NK,rfl,q1,w1⟩:=r1.list sm;obtain⟨a2,sO,rfl,q2,Z⟩:=r2.list sm;have l1:=w1.length;have l2:=Z.length;cases rx;cases ry;obtain⟨its,Y,⟨o1,n1,p1,c1,d1,S⟩,_⟩:=I.list q1;obtain⟨j,z,⟨o2,n2,p2,J,O,U⟩,_⟩:=I.list q2;have l3:=Y.length;have l4:=z.length;obtain⟨cls,dd,data,sl⟩:=o1;obtain⟨UY,YY,data2,dX⟩:=o2;simp only at c1 d1 S J O U;subst c1 d1 S J O U
    refine cL ⟨_,p1,rfl⟩ ⟨_,p2,rfl⟩ noFill_list_add seq_list_add PySem.F.slot_list_add PySem.F.entry_list_add (PySem.F.args_list_add_2 _ _)
     (list_addW a1 a2 its.toArray j.toArray n1 n2 none none sl dX (by rw[sA,sA];show VV<|01)) ⟨p1,p2,?_⟩
    have ea:its.toArray++j.toArray=(its++j).toArray:=by simp
    rw[ea];refine⟨.ref _,_,I.lnew (t':=s.toks) (Y.append z) (by rw[IA];show VV<|01),rfl,?_⟩;show k _ (NK++sO) G _ (zf.newH sm I.fresh) I.fresh (sm.free I.fresh) zL<|w1.append Z
   .cases e
  |_=>cases e
 |_=>cases e
theorem v6(ha:SR X a f)(hb:SR X b g):SF X (.BinOp a .Add b pos) (nU f g zy):=WF (zU8 zSs ha hb) λ_ _ _ h=>zVg h
def WA:D->D->Option D
 |.lst xs,.int i=>NF xs i
 |.tup xs,.int i=>NF xs i
 |.str z,.int i=>if z.length<=1000000 then (NF z.cps.toList i).map λc=>.str ⟨#[c]⟩ else none
 |_,_=>none
theorem zNH{K:Fg}{G:Hp}{xs:List D}{vs:List V}{i:Int}{d:D}(r:HA K G xs vs)(h:NF xs i>d):∃v,NF vs i>v/\Rep K G d v:=by
 unfold NF at h|-;rw[<- r.length];obtain⟨j,z,I⟩:=aA.mp h;rw[z];show r.get I
theorem Hy:xQ X (rD X.K WA):=by
 intro value slice pins s σ H x y v u Q I S U ⟨G,dx,Z,d,sm,r1,r2,e,k⟩ hs
 cases Z with
 |int i=>
  have hy:=r2.int;subst hy
  cases dx with
  |lst xs=>
   obtain⟨a1,J,rfl,q1,w1⟩:=r1.list sm;obtain⟨Y,j,O⟩:=zNH w1 e
   show Rf value slice pins s σ H _ _ v u Q I S U (.inl ⟨a1,J,i,Y,rfl,rfl,q1,j,k _ G H (zf.refl sm) O⟩) hs
  |tup xs=>
   obtain⟨a1,J,rfl,q1,w1⟩:=r1.tup sm;obtain⟨Y,j,O⟩:=zNH w1 e
   show Rf value slice pins s σ H _ _ v u Q I S U (.inr<|.inl ⟨a1,J,i,Y,rfl,rfl,q1,j,k _ G H (zf.refl sm) O⟩) hs
  |str z=>
   have hx:=r1.str;subst hx;dsimp[WA]at e;split at e
   .rename_i hz;obtain⟨c,j,rfl⟩:=cA.mp e;show Rf value slice pins s σ H _ _ v u Q I S U (.inr<|.inr ⟨z,i,c,rfl,rfl,VV hz,j,k _ G H (zf.refl sm)<|qu.mpr rfl⟩) hs
   .cases e
  |_=>cases e
 |_=>cases dx<;>cases e
theorem zQ(ha:SR X a f)(hb:SR X b g)(hs:zMw b:=by intro _ _;rfl):SE X (.Subscript a b pos) (b2 f g WA):=WF (E1 Hy ha hb hs) λ_ _ _ h=>Cd h
abbrev zw(xs:List D)(lo hi:Option Int):List D:=(xs.drop<|HT.QD xs.length 0 lo).take<|HT.QD xs.length xs.length hi-HT.QD xs.length 0 lo
theorem zNI{K:Fg}{G:Hp}{xs:List D}{vs:List V}(lo hi:Option Int)(r:HA K G xs vs):HA K G (zw xs lo hi) (ET vs lo hi):=by
 unfold zw ET;rw[r.length];show(r.drop _).take _
def tOs(K:Fg)(f:lB->Option (Option Int)):TO:=λσ H Q=>∃G ρ d,zh G H/\Er K G H ρ σ/\f ρ>d/\∀G' H',zf G H G' H'->Q d H'
abbrev SO(X:Cx)(e:Option Expr)(f:lB->Option (Option Int)):Prop:=PO X e<|tOs X.K f
theorem zVh(h:PO X e t)(w:∀σ H Q,t' σ H Q->t σ H Q):PO X e t':=λpins s σ H Q I q=>h pins s σ H Q I<|w σ H Q q
noncomputable def asI:D->Option Int
 |.int i=>some i
 |_=>none
def oI(f:dC):lB->Option (Option Int):=λρ=>(f ρ).bind λd=>(asI d).map some
theorem qZ:SO X none (λ_=>some none):=zVh zSV λσ H Q=>by rintro⟨G,ρ,d,s,er,j,k⟩;cases j;show k G H<|zf.refl s
theorem qH(h:SE X a f):SO X (some a) (oI f):=zVh (zSW h) λσ H Q=>by
 rintro⟨G,ρ,d,s,er,z,k⟩;obtain⟨x,O,z⟩:=aA.mp z;obtain⟨i,I,rfl⟩:=cA.mp z
 cases x with
 |int j=>cases I;show⟨G,ρ,_,s,er,O,λS J H1 t1 r1=>⟨i,zv.mp r1,k J H1 t1⟩⟩
 |_=>cases I
variable {lo hi:Option Expr}{ol oh:lB->Option (Option Int)}{p2:Pos}
def VJ(x:D)(lo hi:Option Int):Option D:=match x with
 |.tup xs=>some<|.tup<|zw xs lo hi
 |.str z=>if z.length<=1000000 then some (.str<|Txt.slice z lo hi) else none
 |_=>none
def Zn(x:D)(lo hi:Option Int):Option (List D):=match x with
 |.lst xs=>some<|zw xs lo hi
 |_=>none
noncomputable def IK{α:Type}(f:dC)(ol oh:lB->Option (Option Int))(op:D->Option Int->Option Int->Option α):lB->Option α:=λρ=>(f ρ).bind λx=>(ol ρ).bind λl=>(oh ρ).bind λh=>op x l h
theorem zDG{E:vD}{s:Shared}{t z:Addr}{items:Array Value}{J O:Value}{lo hi:Option Int}{Q:vD}(j:mP s.heap t items)(hs:s.heap.IsSliceOf z J O .none)(pl:IsPart J lo)(pu:IsPart O hi)(I:HT.QD items.size 0 lo=0/\HT.QD items.size items.size hi=items.size)(h:Q (.ref t) s):wpAny (model prog w) A (getItem (.ref t)<|.ref z) Q E s:=by
 obtain⟨os,Z,Y,DZ⟩:=id hs;have S:s.TypeIs (.ref z) "slice":=⟨os,Z,Y⟩
 unfold getItem
 try with_reducible refine wpAny_holding ?_
 first|refine wpAny_bind (wpAny_pure ?_)|skip
 refine wpAny_bind (wpAny_sequenceKey j.typeIs 02 ?_)
 refine wpAny_bind (wpAny_callSpecial?_slot (name:=fA "__getitem__") j.typeIs PyProof.Rows.slot_tuple_getitem
  (wpAny_call_entry PyProof.Rows.slot_tuple_getitem j.typeIs entry_tuple_getitem ?_<|args_tuple_getitem _ _))
 change wpAny _ _ (QI (.ref t) >>= _) _ _ s;refine wpAny_bind<|tupleItemsOf_ j ?_;refine wpAny_bind<|wpAny_typeOf S ?_;rw[if_pos<|02];refine wpAny_bind<|HT.jb hs pl pu ?_
 have U:(((HT.QD items.size 0 lo:Nat):Int)==0&&(1:Int)==1&&(HT.QD items.size items.size hi-HT.QD items.size 0 lo)==items.size)=true:=by
  rw[I.1,I.2];simp
 change wpAny _ _ (if (((HT.QD items.size 0 lo:Nat):Int)==0&&(1:Int)==1&&(HT.QD items.size items.size hi-HT.QD items.size 0 lo)==items.size)=true then _ else _) _ _ s;rw[if_pos U];unfold A7
 first
  |show wpAny_bind (wpAny_bind<|wpAny_typeOf j.typeIs<|wpAny_pure (by rw[if_pos<|02];show wpAny_bind<|wpAny_rule<|wpAny_pure ⟨_,rfl,wpAny_pure h⟩))
  |show wpAny_bind (wpAny_bind<|wpAny_typeOf j.typeIs<|wpAny_pure (by rw[if_pos<|02];show wpAny_bind<|wpAny_rule<|wpAny_bind<|wpAny_pure<|wpAny_pure ⟨_,rfl,wpAny_pure h⟩))
  |show wpAny_bind (wpAny_bind<|wpAny_bind<|wpAny_typeOf j.typeIs<|wpAny_pure (by rw[if_pos<|02];show wpAny_bind<|wpAny_rule<|wpAny_pure<|wpAny_pure ⟨_,rfl,wpAny_pure h⟩))
def rSD(K:Fg):V->Option Int->Option Int->Hp->VK->Prop:=λx lo hi H Q=>∃G dx d,zh G H/\PH K G H dx x/\VJ dx lo hi>d/\∀v G' H',zf G H G' H'->Rep K G' d v->Q v H'
theorem part_of(p:IsPart v o):∃l:Option (Int×Tok),v=partValue l/\l.map (·.1)=o:=by
 cases p with
 |none=>show⟨none,rfl,rfl⟩
 |int i t=>show⟨some (i,t),rfl,rfl⟩
theorem Jf:X7 X (rSD X.K):=by
 intro pins s σ H x v vl vu lo hi sl Q I U hs pl Y ⟨G,dx,d,sm,r1,e,k⟩
 cases dx with
 |tup xs=>
  cases e;obtain⟨a1,j,rfl,q1,w1⟩:=r1.tup sm;by_cases S:HT.QD j.length 0 lo=0/\HT.QD j.length j.length hi=j.length
  .cases U;obtain⟨its,vv,Z,hz⟩:=I.tuple q1;have J:its.toArray.size=j.length:=by rw[sA];show vv.length.symm
   refine⟨"tuple",_,PyProof.Rows.slot_tuple_getitem.lookup,Z.typeIs,zDG Z hs pl Y (by rw[J];show S) ⟨.ref a1,H,I,rfl,k _ G H (zf.refl sm) ?_⟩⟩
   have e1:zw xs lo hi=xs:=by
    unfold zw;rw[w1.length,S.1,S.2,BL,O7,<- w1.length,gH]
   rw[e1];show r1.rep λ_ z=>by cases z
  .show zVJ pins s σ H _ v vl vu lo hi sl Q I U hs pl Y ⟨a1,j,rfl,q1,S,λp hp=>k _ _ _ (zf.new sm hp)<|LR.mpr ⟨p,_,rfl,zL,HA.mono (yM<|sm.free hp) _ _<|zNI lo hi w1⟩⟩
 |str z=>
  dsimp[VJ]at e;split at e
  .rename_i hz;cases e;rw[r1.str]at U;obtain⟨t,rfl⟩:=U;obtain⟨l,rfl,el⟩:=part_of pl;obtain⟨u,rfl,eu⟩:=part_of Y;refine⟨"str",_,F.slot_str_getitem.lookup,typeIs_str _ _ _,wpAny_getItem_str_slice (l:=l) (u:=u) (st:=none) hs rfl ?_⟩;subst el eu;refine post_val_or_str ⟨vA (Txt.slice_le z _ _)<|VV hz,λt' k'=>⟨.str _,H,I.tok _,⟨_,rfl⟩,k _ G H (zf.refl sm)<|qu.mpr rfl⟩⟩
  .cases e
 |_=>cases e
theorem yo(ha:SR X a f)(U:SO X lo ol)(hh:SO X hi oh):SE X (.Subscript a (.Slice lo hi none p2) pos) (IK f ol oh VJ):=WF (zKc Jf ha U hh) λσ H Q=>by
 rintro⟨G,ρ,d,s,er,j,k⟩;obtain⟨x,O,j⟩:=aA.mp j;obtain⟨l,S,j⟩:=aA.mp j;obtain⟨h,e3,j⟩:=aA.mp j;show⟨G,ρ,x,s,er,O,λZ z H1 t1 r1=>⟨z,ρ,l,t1.s,er.step t1,S,λI H2 t2=>⟨I,ρ,h,t2.s,er.step<|t1.trans t2,e3,λJ Y t3=>⟨J,x,d,t3.s,r1.step<|t2.trans t3,j,λv G' H' t r=>k v G' H' (((t1.trans t2).trans t3).trans t) r⟩⟩⟩⟩
theorem zPp(ha:SR X a f)(Y:SO X lo ol)(hh:SO X hi oh):SF X (.Subscript a (.Slice lo hi none p2) pos) (IK f ol oh Zn):=WF (zKc zSZ ha Y hh) λσ H Q=>by
 rintro⟨G,ρ,d,s,er,j,k⟩;obtain⟨x,S,j⟩:=aA.mp j;obtain⟨l,U,j⟩:=aA.mp j;obtain⟨h,e3,j⟩:=aA.mp j
 cases x with
 |lst xs=>
  cases j;refine⟨G,ρ,_,s,er,S,λv1 z H1 t1 r1=>⟨z,ρ,l,t1.s,er.step t1,U,λI H2 t2=>⟨I,ρ,h,t2.s,er.step<|t1.trans t2,e3,λJ Z t3=>?_⟩⟩⟩;have tt:=(t1.trans t2).trans t3;obtain⟨a1,O,rfl,q1,w1⟩:=(r1.step<|t2.trans t3).list t3.s
  show⟨a1,O,rfl,q1,λp hp=>k p _ J _ (tt.trans<|zf.newH t3.s hp) (tt.h.free hp) (t3.s.free hp) zL<|zNI l h w1⟩
 |_=>cases j
noncomputable def cH:D->Option D
 |.tup xs=>some<|.int xs.length
 |.lst xs=>some<|.int xs.length
 |.str z=>if z.length<=1000000 then some (.int z.length) else none
 |_=>none
theorem zo:BK X (.builtin "len") (cR X.K cH):=by
 intro pins s σ H xs us Q I r h;obtain⟨G,d1,d,x,rfl,sm,r1,e,k⟩:=h
 cases d1 with
 |tup ys=>
  cases e;obtain⟨a,vs,rfl,q,w⟩:=r1.tup sm;refine vc pins s σ H _ us Q I r ⟨a,vs,rfl,.inr q,?_⟩;rw[<- w.length]
  show k _ G H (zf.refl sm)<|zv.mpr rfl
 |lst ys=>
  cases e;obtain⟨a,vs,rfl,q,w⟩:=r1.list sm;refine vc pins s σ H _ us Q I r ⟨a,vs,rfl,.inl q,?_⟩;rw[<- w.length]
  show k _ G H (zf.refl sm)<|zv.mpr rfl
 |str z=>
  dsimp[cH]at e;split at e
  .rename_i hz;cases e;have hx:=r1.str;subst hx;show zIR pins s σ H _ us Q I r ⟨z,rfl,VV hz,k _ G H (zf.refl sm)<|zv.mpr rfl⟩
  .cases e
 |_=>cases e
noncomputable def tK:D->Option D
 |.tup xs=>some<|.tup xs
 |.lst xs=>some<|.tup xs
 |_=>none
theorem yD:BK X (.type "tuple") (cR X.K tK):=by
 intro pins s σ H xs us Q I r h;obtain⟨G,d1,d,x,rfl,sm,r1,e,k⟩:=h
 cases d1 with
 |tup ys=>
  cases e;obtain⟨a,vs,rfl,q,w⟩:=r1.tup sm
  show jz pins s σ H _ us Q I r ⟨a,vs,rfl,.inr ⟨q,k _ G H (zf.refl sm)<|r1.rep λ_ z=>by cases z⟩⟩
 |lst ys=>
  cases e;obtain⟨a,vs,rfl,q,w⟩:=r1.list sm
  show jz pins s σ H _ us Q I r ⟨a,vs,rfl,.inl ⟨q,λp hp=>k _ _ _ (zf.new sm hp)<|LR.mpr ⟨p,_,rfl,zL,HA.mono (yM<|sm.free hp) _ _ w⟩⟩⟩
 |_=>cases e
noncomputable def aW:D->Option (List D)
 |.tup xs=>some xs
 |.lst xs=>some xs
 |_=>none
theorem zNJ:BK X (.type "list") (cF X.K aW):=by
 intro pins s σ H xs us Q I r h;obtain⟨G,d1,ys,x,rfl,sm,r1,e,k⟩:=h
 cases d1 with
 |tup zs=>
  cases e;obtain⟨a,vs,rfl,q,w⟩:=r1.tup sm
  show vd pins s σ H _ us Q I r ⟨a,vs,rfl,.inr q,λp hp=>k p vs G _ (zf.newH sm hp) hp (sm.free hp) zL w⟩
 |lst zs=>
  cases e;obtain⟨a,vs,rfl,q,w⟩:=r1.list sm
  show vd pins s σ H _ us Q I r ⟨a,vs,rfl,.inl q,λp hp=>k p vs G _ (zf.newH sm hp) hp (sm.free hp) zL w⟩
 |_=>cases e
noncomputable def Cq:D->Option D
 |.int i=>some<|.int i
 |.bl b=>some<|.int<|if b then 1 else 0
 |_=>none
theorem Nw:BK X (.type "int") (cR X.K Cq):=by
 intro pins s σ H xs us Q I r h;obtain⟨G,d1,d,x,rfl,sm,r1,e,k⟩:=h
 cases d1 with
 |int i=>cases e;have hx:=r1.int;subst hx;show zIL pins s σ H _ us Q I r<|.inl ⟨i,rfl,k _ G H (zf.refl sm)<|zv.mpr rfl⟩
 |bl b=>cases e;have hx:=r1.bl;subst hx;show zIL pins s σ H _ us Q I r<|.inr ⟨b,rfl,k _ G H (zf.refl sm)<|zv.mpr rfl⟩
 |_=>cases e
noncomputable def FM(x:Int):List Int->List Int
 | []=>[x]
 |y::ys=>if x<=y then x::y::ys else y::FM x ys
noncomputable def sL:List Int->List Int
 | []=>[]
 |x::xs=>FM x<|sL xs
noncomputable def vR(a b:Str):Bool:=decide<|a.cps.toList<b.cps.toList
noncomputable def HN(x:Str):List Str->List Str
 | []=>[x]
 |y::ys=>if vR y x then y::HN x ys else x::y::ys
noncomputable def UM:List Str->List Str
 | []=>[]
 |x::xs=>HN x<|UM xs
noncomputable def UX:List D->Option (List Int)
 | []=>some []
 |.int i::r=>(UX r).map (i :: ·)
 |_=>none
noncomputable def iS:List D->Option (List Str)
 | []=>some []
 |.str i::r=>(iS r).map (i :: ·)
 |_=>none
def JQ:D->Option (List D):=λd=>(aW d).bind λxs=>if xs.length<64 then match UX xs with
  |some is=>some<|(sL is).map .int
  |none=>(iS xs).map λss=>(UM ss).map .str
 else none
end
end RD
namespace RD
open PySem PySem.Spec PyProof.Rows L2
noncomputable def CJ(names:List (Str×NameKind))(cells:List (Str×Addr)):List (Str×Addr):=((names.filter λy=>y.2==.free).reverse).map λy=>(y.1,(cells.lookup y.1).getD 0)
theorem vf{env:Env}:∀(names:List (Str×NameKind))(acc:List (Str×Addr)),(∀y∈names,y.2=.free->∃c,env.cells.lookup y.1>c) ->
  (forIn names acc<|λ(x:Str×NameKind) (cs:List (Str×Addr))=>(if x.2==.free then (do let c <- cellOf env x.1;pure (ForInStep.yield ((x.1,c)::cs))) else pure (ForInStep.yield cs):Sem (ForInStep<|List<|Str×Addr)))=pure (CJ names env.cells++acc)
 | [],acc,_=>by simp[CJ]
 |(n,k)::r,acc,h=>by
  have ih:=λacc=>vf r acc λy hy=>h y<|bA _ hy
  rw[IH];by_cases hk:(k==NameKind.free)=true
  .obtain⟨c,hc⟩:=h (n,k) gA ‹hk›;dsimp[hk,if_true];have j:cellOf env n=pure c:=by unfold cellOf;rw[hc]
   rw[j];change(forIn r ((n,c)::acc) _:Sem (List<|Str×Addr))=_;rw[ih]
   congr 1
   simp[CJ,hk,hc]
  .dsimp[hk,if_false];change(forIn r acc _:Sem (List<|Str×Addr))=_;rw[ih]
   congr 1
   simp[CJ,hk]
theorem qc{scope:EF}{env:Env}(h:∀y∈scope.names,y.2=.free->∃c,env.cells.lookup y.1>c):bH scope env=pure (CJ scope.names env.cells):=by
 have:=vf scope.names [] h;rw[oB]at this;unfold bH;change(forIn scope.names [] _ >>= λcs=>pure cs)=_;have j:(forIn scope.names ([]:List (Str×Addr))<|λ(x:Str×NameKind) (cs:List (Str×Addr))=>(match x with|(name,kind)=>if kind==.free then (do let c <- cellOf env name;pure (ForInStep.yield ((name,c)::cs))) else pure (ForInStep.yield cs):Sem (ForInStep<|List<|Str×Addr)))=pure (CJ scope.names env.cells):=this
 first
  |show(congrArg (λt=>t >>= λcs=>pure cs) j).trans rfl
  |(erw [j];rfl)
theorem vw{cells:List (Str×Addr)}(h:(CJ names cells).lookup x>c):(x,NameKind.free)∈names/\c=(cells.lookup x).getD 0:=by
 have hm:=sC h;obtain⟨y,hy,e⟩:=LA.mp hm;obtain⟨h1,h2⟩:=LC.mp<|XQ.mp hy;cases e;obtain⟨n,k⟩:=y;have:k=.free:=‹h2›
 subst this;show⟨h1,rfl⟩
theorem kc{F:Str->Addr}:∀(l:List (Str×NameKind)){x:Str},(∃k,(x,k)∈l)->(l.map λy=>(y.1,F y.1)).lookup x>F x
 | [],_,h=>by obtain⟨_,h⟩:=h;cases h
 |(n,k)::r,x,h=>by
  rw[eA,YA];by_cases e:x=n
  .subst e;simp
  .have:(x==n)=false:=‹e›
   rw[this];refine kc r ?_;obtain⟨k',h⟩:=h;rcases lA.mp h with q|q
   .cases q;show absurd rfl e
   .show⟨k',q⟩
theorem zKn{cells:List (Str×Addr)}(h:(x,NameKind.free)∈names):(CJ names cells).lookup x>(cells.lookup x).getD 0:=by
 unfold CJ;show kc (F:=λx=>(cells.lookup x).getD 0) _ ⟨.free,XQ.mpr<|LC.mpr ⟨h,by simp⟩⟩
noncomputable def qU(N nm:List Str)(inner outer:List (Str×NameKind)):Bool:=
 inner.all (λy=>y.2 != .cell&&y.1 != "" && (y.2 != .local || inner.lookup y.1==some .local)&&(y.2 != .free || outer.lookup y.1==some .cell || outer.lookup y.1==some .free)) &&
 N.all (λx=>nm.contains x || match inner.lookup x with|none=>true|some .free=>true|some .globalImplicit=>true|some .globalExplicit=>true|_=>false)
noncomputable def sT(N nm:List Str):List Str:=N.map (λy=>if nm.contains y then ("" : Str) else y)++nm
def zp(X:Cx)(nm:List Str)(scope:EF)(C:Addr)(NA:Shared)(aB:Hp)(ex:List Addr):Cx:=
 { X with N:=sT X.N nm,s₀:=NA,H₀:=aB,env:=compEnvC scope (CJ scope.names X.env.cells) C X.env,outer:=X.stack,ex:=ex,fn:=λ_=>false,pn:=[],xe:=λ_ _=>False }
theorem Kz{env:Env}{x:Str}{k:NameKind}:∀{names:List (Str×NameKind)},(names.map λ(n,k)=>if (k==NameKind.free&&env.scope.kind==.function&&env.kindOf n==some .cell) then (n,NameKind.cell) else (n,k)).lookup x>k ->
  ∃k',names.lookup x>k'/\(k=k'\/(k=.cell/\k'=.free))
 | [],h=>by simp at h
 |(n,k0)::r,h=>by
  have ih:=@Kz env x k r;rw[eA]at h;dsimp only at h;rw[YA];by_cases e:x=n
  .subst e;dsimp[BEq.rfl];refine⟨k0,rfl,?_⟩;by_cases hc:(k0==NameKind.free&&env.scope.kind==.function&&env.kindOf x==some .cell)=true
   .rw[if_pos hc,YA]at h;dsimp[BEq.rfl]at h;cases h;dsimp[NB,beq_iff_eq]at hc;show .inr ⟨rfl,hc.1.1⟩
   .rw[if_neg hc,YA]at h;dsimp[BEq.rfl]at h;cases h;show .inl rfl
  .have e':(x==n)=false:=‹e›
   rw[e'];refine ih ?_;by_cases hc:(k0==NameKind.free&&env.scope.kind==.function&&env.kindOf n==some .cell)=true
   .rw[if_pos hc,YA,e']at h;show h
   .rw[if_neg hc,YA,e']at h;show h
noncomputable def zR(g:D->lB->Option lB)(p:iF)(f:dC):List D->lB->Option (List D)
 | [],_=>some []
 |d::ds,ρ=>(g d ρ).bind λρ1=>(p ρ1).bind λb=>if b=true then (f ρ1).bind λx=>(zR g p f ds ρ).map (x :: ·) else zR g p f ds ρ
noncomputable def zK(m:Nat)(fl:dD)(g:D->lB->Option lB)(p:iF)(f:dC):dD:=λρ=>(fl ρ).bind λds=>if ds.length<=1000000 then zR g p f ds (ρ++pA m .un) else none
def bR(X:Cx)(ifs:List Expr)(p:iF):Prop:=(ifs=[]/\p=λ_=>some true)\/∃c,ifs=[c]/\SB X c p
def XH(H:Hp)(ρ:lB)(σ:L2.St)(a:Addr):Prop:=∀(j:Nat)(u:Sl)(b:Addr),ρ[j]?>u->u.isObj=true->σ[j]?>(some<|.ref b)->a∉JE H u b
theorem Er.app{K:Fg}{G H:Hp}{ρ:lB}{σ:L2.St}(e:Er K G H ρ σ)(m:Nat)(τ:L2.St)(I:τ.length=m):Er K G H (ρ++pA m .un) (σ++τ):=by
 have low:∀{i:Nat}{s:Sl},(ρ++pA m .un)[i]?>s->s=.un\/(i<ρ.length/\ρ[i]?>s):=λ{i s} h=>by
  by_cases hi:i<ρ.length
  .rw[XA hi]at h;show .inr ⟨hi,h⟩
  .rw[mB<|01,HB]at h;split at h<;>cases h;show .inl rfl
 have up:∀{i:Nat},i<ρ.length->(σ++τ)[i]?=σ[i]?:=λ{i} hi=>XA (by rw[<- e.len];show hi)
 refine⟨by simp[e.len,I],λi d h=>?_,λi u h o=>?_,λi j s t a b ne h1 J h2 O q1 S=>?_⟩
 .rcases low h with z|⟨hi,q⟩
  .cases z
  .rw[up hi];show e.val i d q
 .rcases low h with z|⟨hi,q⟩
  .subst z;cases o
  .rw[up hi];show e.slot i u q o
 .rcases low h1 with z|⟨hi,q⟩
  .subst z;cases J
  rcases low h2 with z|⟨U,q'⟩
  .subst z;cases O
  rw[up hi]at q1;rw[up U]at S;show e.sep i j s t a b ne q J q' O q1 S
section
variable {X:Cx}{tg iter elt:Expr}{ifs:List Expr}{scope:EF}{pos:Pos}{nm:List Str}{fl:dD}{gd:D->lB->Option lB}{p:iF}{f:dC}
theorem yE{inner outer:List (Str×NameKind)}(h:qU N nm inner outer=true){y:Str×NameKind}(hy:y∈inner):
  y.2≠.cell/\y.1 ≠ ""/\(y.2=.local->inner.lookup y.1>.local)/\(y.2=.free->outer.lookup y.1>.cell\/outer.lookup y.1>.free):=by
 unfold qU at h;rw[NB,dE]at h;have:=h.1 y hy;dsimp[NB,HH,bne_iff_ne,ne_eq,beq_iff_eq]at this;obtain⟨⟨⟨h1,h2⟩,h3⟩,j⟩:=this;refine⟨h1,h2,λe=>?_,λe=>?_⟩
 .rcases h3 with z|z
  .show absurd e z
  .show z
 .rcases j with(z|z)|z
  .show absurd e z
  .show .inl z
  .show .inr z
theorem zPq{N nm:List Str}{inner outer:List (Str×NameKind)}(h:qU N nm inner outer=true)(hx:x∈N)(j:¬ nm.contains x=true)(hk:inner.lookup x>k):k≠.local/\k≠.cell:=by
 unfold qU at h;rw[NB,dE,dE]at h;have:=h.2 x hx;rw[HH]at this;rcases this with z|z
 .show absurd z j
 .rw[hk]at z;cases k<;>first|show⟨02,02⟩|show absurd z 02
theorem zNK{s:Shared}(I:Inv X pins σ H s)(hk:scope.kind=.function)(hok:qU X.N nm scope.names X.env.scope.names=true)(j:∀b∈ex,SH X pins H b)(EH:∀b∈ex,b<s.heap.objs.size):
  (zp X nm scope s.heap.objs.size s H ex).Ok:=by
 have NH:∀x c,(CJ scope.names X.env.cells).lookup x>c->X.env.cells.lookup x>c:=λx c e=>by
  obtain⟨h1,h2⟩:=vw e;have h3:=(yE hok h1).2.2.2 rfl;obtain⟨Y,J⟩:=I.ok.has x h3;rw[J]at h2;rw[J,h2];rfl
 refine⟨I.ok.mod,?_,I.ok.glob,I.ok.blt,rA _,λx y c h1 h2=>I.ok.inj x y c (NH x c h1)<|NH y c h2,λx hx=>?_,λx c z=>(by cases z),I.ok.hd,I.ok.frames,.inl rfl,λb hb=>⟨?_,λx c e=>?_⟩,I.bs,vA I.ok.bsz I.sz,λb o e hb=>?_,λb hb hf=>?_,I.stack,I.stkFree⟩
 .change(relabel scope X.env).kind=.function;show hk
 .have:∃k,(relabel scope X.env).names.lookup x>k/\(k=.cell\/k=.free):=by
   rcases hx with z|z
   .show⟨_,z,.inl rfl⟩
   .show⟨_,z,.inr rfl⟩
  obtain⟨k,e,U⟩:=this;obtain⟨k',O,S⟩:=Kz e;have hm:=sC O;have hc:=(yE hok hm).1
  have hf:k'=.free:=by
   rcases S with z|⟨_,z⟩
   .subst z;rcases U with z|z
    .show absurd z hc
    .show z
   .show z
  subst hf;show⟨_,zKn hm⟩
 .show OA<|EH b hb
 .show(j b hb).2.2.2.2.1 x c (NH x c e)
 .have h1:=(j b hb).2.2.2.1;rcases h1 with z|z
  .show I.ok.noex b o e z
  .show absurd (DA (GA (I.ok.bs b o e).1) z)<|GC _
 .have h1:=I.stkSub b hf;rcases lA.mp h1 with z|z
  .show(j b hb).2.1 z
  .show(j b hb).2.2.1 z
theorem zNL(N nm:List Str):(sT N nm).length=N.length+nm.length:=by simp[sT]
theorem zLv{s:Shared}(I:Inv X pins σ H s)(hk:scope.kind=.function)(hok:qU X.N nm scope.names X.env.scope.names=true)(Z:∀b∈ex,SH X pins H b)(EH:∀b∈ex,b<s.heap.objs.size){tG:Heap}{j:gF}{tk:Nat}(hn:tG.Ns s.heap.objs.size j)(keep:∀b o,s.heap.get? b>o->tG.get? b>o):
  Inv (zp X nm scope s.heap.objs.size s H ex) [] (σ++pA nm.length none) H { s with heap:=tG,toks:=tk }:=by
 have ok:=zNK (nm:=nm) (scope:=scope) I hk hok Z EH
 have NH:∀x c,(CJ scope.names X.env.cells).lookup x>c->X.env.cells.lookup x>c:=λx c e=>by
  obtain⟨h1,h2⟩:=vw e;have h3:=(yE hok h1).2.2.2 rfl;obtain⟨c',h4⟩:=I.ok.has x h3;rw[h4]at h2;rw[h4,h2];rfl
 refine⟨ok,rfl,I.bare,Un.kept keep,⟨j,hn,λi x v e1 J e3=>?_⟩,λx c e=>?_,I.hok.fresh<|rA _,λx c e=>I.freeC x c<|NH x c e,λp hp=>(by simp[zp]at hp),I.hok.kept keep,?_⟩
 .have hi:i<X.N.length:=by
   by_cases hi:i<σ.length
   .rw[<- I.len];show hi
   .rw[mB<|01,HB]at J;split at J<;>cases J
  have gI:(X.N.map<|λy=>if nm.contains y then ("" : Str) else y)[i]?>x:=by
   have:(sT X.N nm)[i]?>x:=e1;unfold sT at this
   rwa [XA<|by simpa using hi]at this
  have mO:σ[i]?>some v:=by rwa [XA (by rw[I.len];show hi)]at J
  rw[CA]at gI;obtain⟨y,ey,O⟩:=cA.mp gI
  have ZY:∃k,(relabel scope X.env).names.lookup x>k/\(k=.local\/k=.cell\/k=.free):=by
   rcases e3 with z|z|z
   .show⟨_,z,.inl rfl⟩
   .show⟨_,z,.inr<|.inl rfl⟩
   .show⟨_,z,.inr<|.inr rfl⟩
  obtain⟨k,U,MZ⟩:=ZY;obtain⟨k',Wy,Wz⟩:=Kz U;have hm:=sC Wy;by_cases hc:nm.contains y=true
  .rw[if_pos hc]at O;show absurd O.symm (yE hok hm).2.1
  .rw[if_neg hc]at O;subst O;obtain⟨n1,n2⟩:=zPq hok (xA ey) hc Wy
   have hf:k'=.free:=by
    rcases Wz with z|⟨_,z⟩
    .subst z;rcases MZ with z|z|z
     .show absurd z n1
     .show absurd z n2
     .show z
    .show z
   subst hf;have ho:=(yE hok hm).2.2.2 rfl;obtain⟨m0,hn0,hl0⟩:=I.loc;obtain⟨u,r,l⟩:=hl0 i y v ey mO (by rcases ho with z|z;show .inr<|.inl z;show .inr<|.inr z);refine⟨u,r,?_⟩;rcases l with⟨z,_⟩|⟨_,c,Y,IU⟩
   .have S:X.env.scope.names.lookup y>.local:=z;rcases ho with q|q
    .rw[q]at S;cases S
    .rw[q]at S;cases S
   .right
    refine⟨?_,c,?_,?_⟩
    .rcases MZ with z|z|z
     .subst z;rcases Wz with q|⟨q,_⟩<;>cases q
     .show .inl (by rw[<- z];show U)
     .show .inr (by rw[<- z];show U)
    .change(CJ scope.names X.env.cells).lookup y>c;rw[zKn hm,Y];rfl
    .obtain⟨o,q1,q2⟩:=IU;show⟨o,keep _ _ q1,q2⟩
 .obtain⟨v,o,q1,q2⟩:=I.cell x c<|NH x c e;show⟨v,o,keep _ _ q1,q2⟩
 .change _=(sT X.N nm).length;rw[zNL,IA,RH,I.len]
def CM(n:Nat)(g:D->lB->Option lB):Prop:=∀d ρ ρ1,g d ρ>ρ1->ρ1.length=ρ.length/\(∀i,i<n->ρ1[i]?=ρ[i]?)/\∀(i:Nat)(s:Sl),ρ1[i]?>s->ρ[i]?>s\/∃d,s=.v d
theorem zd(h:n<=i):CM n (gN i):=λd ρ ρ1 e=>by
 cases e;show⟨by simp,λj I=>RA<|01,λj u h=>(zj h).elim (λz=>.inr ⟨d,z.2.1⟩) λz=>.inl z.2⟩
def Az(n:Nat)(g:List D->lB->Option lB):Prop:=∀d ρ ρ1,g d ρ>ρ1->ρ1.length=ρ.length/\(∀i,i<n->ρ1[i]?=ρ[i]?)/\∀(i:Nat)(s:Sl),ρ1[i]?>s->ρ[i]?>s\/∃d,s=.v d
theorem X9:Az n vF:=λd ρ ρ1 e=>by
 cases d with
 |nil=>cases e;show⟨rfl,λ_ _=>rfl,λ_ _ h=>.inl h⟩
 |cons _ _=>cases e
theorem US{g:D->lB->Option lB}{j:List D->lB->Option lB}(h1:CM n g)(h2:Az n j):Az n (UD g j):=λd ρ ρ1 e=>by
 cases d with
 |nil=>cases e
 |cons d ds=>
  obtain⟨O,I,J⟩:=aA.mp e;obtain⟨a1,a2,z⟩:=h1 _ _ _ I;obtain⟨b1,b2,b3⟩:=h2 _ _ _ J;show⟨b1.trans a1,λi hi=>(b2 i hi).trans<|a2 i hi,λi u h=>(b3 i u h).elim (z i u) .inr⟩
theorem Ah{j:List D->lB->Option lB}(h2:Az n j):CM n (gT k j):=λd ρ ρ1 e=>by
 cases d with
 |tup ds=>
  dsimp[gT]at e;split at e
  .show h2 _ _ _ e
  .cases e
 |_=>cases e
theorem Er.drop{K:Fg}{G H:Hp}{ρ ρ1:lB}{σ:L2.St}{m:Nat}(e:Er K G H ρ1 σ)(O:ρ1.length=(ρ++pA m Sl.un).length)(hk:∀i,i<ρ.length->ρ1[i]?=(ρ++pA m Sl.un)[i]?):Er K G H (ρ++pA m .un) σ:=by
 have low:∀{i:Nat}{s:Sl},(ρ++pA m .un)[i]?>s->s=.un\/ρ1[i]?>s:=λ{i s} h=>by
  by_cases hi:i<ρ.length
  .right;rw[hk i hi];show h
  .rw[mB<|01,HB]at h;split at h<;>cases h;show .inl rfl
 refine⟨O.symm.trans e.len,λi d h=>?_,λi u h o=>?_,λi j s t a b ne h1 I h2 J q1 S=>?_⟩
 .rcases low h with z|q
  .cases z
  .show e.val i d q
 .rcases low h with z|q
  .subst z;cases o
  .show e.slot i u q o
 .rcases low h1 with z|q
  .subst z;cases I
  rcases low h2 with z|q'
  .subst z;cases J
  show e.sep i j s t a b ne q I q' J q1 S
theorem Er.toSt{K:Fg}{G H:Hp}{ρ:lB}{σ:L2.St}(e:Er K G H ρ σ)(s:zh G H):jD K G (qT H ρ σ) G H ρ σ:=
 ⟨e,⟨s,zh.refl _,vt,λb o e n=>by rw[e]at n;cases n⟩,λi u a h o q c m=>Mn h o q m⟩
theorem XH.grow{K:Fg}{G H H':Hp}{ρ:lB}{σ:L2.St}{a:Addr}(e:Er K G H ρ σ)(t:zh H H')(n:XH H ρ σ a):XH H' ρ σ a:=λj u b h o q=>by rw[e.fp t h o q];show n j u b h o q
theorem XH.upd{K:Fg}{G H:Hp}{ρ:lB}{σ:L2.St}{a:Addr}{o:HO}(e:Er K G H ρ σ)(n:XH H ρ σ a):XH (L2.upd H a o) ρ σ a:=λj u b h ob q=>by
 obtain⟨b',h1,h2,_⟩:=e.slot j u h ob;rw[q]at h1;cases h1;rw[(h2.same (zh.refl _) λc m v z=>by rw[upd_ne<|λy=>n j u b h ob q (by rw[<- y];show m)];show z).2];show n j u b h ob q
theorem XH.new{K:Fg}{G H:Hp}{ρ:lB}{σ:L2.St}{a:Addr}(e:Er K G H ρ σ)(n:H a=none):XH H ρ σ a:=λj u b h o q m=>by
 obtain⟨⟨x,z⟩,_⟩:=e.there h o q m;rw[n]at z;cases z
theorem Er.updOther{K:Fg}{G H:Hp}{ρ:lB}{σ:L2.St}{a:Addr}{o:HO}(e:Er K G H ρ σ)(n:XH H ρ σ a):Er K G (upd H a o) ρ σ:=e.hop (zh.refl _) λi s b h ob q c m=>
 ⟨λu z=>by rw[upd_ne<|λy=>n i s b h ob q (by rw[<- y];show m)];show z,(e.there h ob q m).2⟩
theorem XH.app{K:Fg}{G H H':Hp}{ρ:lB}{σ τ:L2.St}{a:Addr}{m:Nat}(n:XH H' ρ σ a)(e:Er K G H ρ σ):XH H' (ρ++pA m .un) (σ++τ) a:=λj u b h1 h2 h3=>by
 by_cases z:j<ρ.length
 .rw[XA z]at h1;rw[XA (by rw[<- e.len];show z)]at h3;show n j u b h1 h2 h3
 .rw[mB<|01,HB]at h1;split at h1<;>cases h1;cases h2
theorem XH.drop{ρ ρ1:lB}(n:XH H ρ1 σ a)(hk:∀i,i<ρ.length->ρ1[i]?=(ρ++pA m Sl.un)[i]?):XH H (ρ++pA m .un) σ a:=λj u b h1 h2 h3=>by
 by_cases z:j<ρ.length
 .show n j u b (by rw[hk j z];show h1) h2 h3
 .rw[mB<|01,HB]at h1;split at h1<;>cases h1;cases h2
theorem zKo{K:Fg}{G H:Hp}{ρ ρ1:lB}{σ J:L2.St}{a:Addr}{o:HO}(e:Er K G H ρ σ)(n:XH H ρ σ a)(st:jD K G (qT H ρ σ) G H ρ1 J)(k:∀(i:Nat)(s:Sl),ρ1[i]?>s->ρ[i]?>s\/∃d,s=.v d)(h:H a>o):XH H ρ1 J a:=λj u b h1 h2 h3 m=>by
 cases I:u.isOwn with
 |true=>
  have q:=st.ows j u b h1 I h3 a m;unfold qT at q;split at q
  .rename_i hh;obtain⟨Z,u',O,w1,w2,w3,w4⟩:=hh;show n Z u' O w1 (Sl.obj_of_own w2) w3 w4
  .rw[h]at q;cases q
 |false=>
  rcases k j u h1 with z|⟨d,z⟩
  .cases u with
   |b c x=>
    obtain⟨a1,S,U,_⟩:=e.slot j _ z rfl;obtain⟨a2,e3,Y,_⟩:=st.er.slot j _ h1 rfl;rw[h3]at e3;cases e3;have y1:=U.2;have y2:=Y.2;subst y1;subst y2
    show n j _ _ z rfl S m
   |_=>first|(cases h2;done)|(cases I;done)
  .subst z;cases h2
theorem vg{R:jJ->Shared->Prop}(W:Nat->Shared->Prop) (turn:∀n s,W n s->wpAny (model prog w) A (pyNext it) (λr j=>match r with
   |none=>R (.ok .next) j
   |some v=>wpAny (model prog w) A (letOwnedTupleGo tg it v) (λ_ j=>wpAny (model prog w) A (assign tg env v) (λ_ O=>
     wpAny (model prog w) A (forIn ifs true λc r=>if r=true then do let ok <- isTrue c env (eval c env);pure (ForInStep.yield ok) else pure (ForInStep.yield r)) (λok I=>
      if ok=true then wpAny (model prog w) A (eval elt env) (λx S=>
       wpAny (model prog w) A (call (.builtin "list.append") [acc,x]) (λ_ J=>∃m,m<n/\W m J) (notedBy (model prog w) A env λe s'=>R (.error e) s') S) (notedBy (model prog w) A env λe s'=>R (.error e) s') I
      else ∃m,m<n/\W m I) (notedBy (model prog w) A env λe s'=>R (.error e) s') O) (notedBy (model prog w) A env λe s'=>R (.error e) s') j) (notedBy (model prog w) A env λe s'=>R (.error e) s') j) (notedBy (model prog w) A env λe s'=>R (.error e) s') s) (n:Nat) (h:W n s) :
  xE (model prog w) A (.compLoop (.ListComp elt [⟨tg,iter,ifs,0⟩] scope pos) 0 it acc env) R s:=by
 refine codeAny_loop rfl W (λn s hI=>?_) n h;change wpAny _ A ((compTurn (.ListComp elt [⟨tg,iter,ifs,0⟩] scope pos) 0 it acc env).onRaise<|λx=>do noteFrame x env;theTreesLotGoes x) _ _ s;refine wpAny_noted ?_;rw[compTurn_list];refine wpAny_bind (wpAny_standAt<|wpAny_bind<|wpAny_mono (turn n s hI) (λr j z=>?_) λ_ _ h'=>h')
 cases r with
 |none=>show wpAny_pure z
 |some v=>
  refine wpAny_bind (wpAny_mono z (λ_ j z=>?_) λ_ _ h'=>h');refine wpAny_bind (wpAny_mono z (λ_ O iH=>wpAny_bind<|wpAny_mono iH (λok I U=>?_) λ_ _ h'=>h') λ_ _ h'=>h')
  cases ok with
  |false=>show wpAny_pure ⟨rfl,U⟩
  |true=>
   show wpAny_bind (wpAny_bind<|wpAny_mono U (λx S Y=>wpAny_bind<|wpAny_mono Y (λ_ J Z=>wpAny_pure<|wpAny_pure ⟨rfl,Z⟩) λ_ _ h'=>h') λ_ _ h'=>h')
theorem zNM{X:Cx}{E:vD}(hx:X.xe=λ_ _=>False)(J:bR X ifs p)(I:Inv X pins σ H s)(sm:zh G H)(er:Er X.K G H ρ σ)(hp:p ρ>b){Q:Bool->Shared->Prop}(hQ:∀G' H' s',Inv X pins σ H' s'->zf G H G' H'->Q b s'):
  wpAny (model X.prog X.w) X.A (forIn ifs true λc r=>if r=true then do let ok <- isTrue c X.env (eval c X.env);pure (ForInStep.yield ok) else pure (ForInStep.yield r)) Q E s:=by
 rcases J with⟨rfl,rfl⟩|⟨c,rfl,hb⟩
 .cases hp;rw[YF];show wpAny_pure<|hQ G H s I<|zf.refl sm
 .rw[IH];dsimp[if_true];have:=hb pins s σ H (λk H'=>k=b/\∃G',zf G H G' H') I ⟨G,ρ,b,sm,er,hp,λG' H' t=>⟨rfl,G',t⟩⟩;rw[hx]at this;refine wpAny_bind (wpAny_bind<|wpAny_mono this (λk s1 h1=>?_) λ_ _ z=>z.elim);obtain⟨H',j,rfl,G',t⟩:=h1;refine wpAny_pure ?_;change wpAny _ _ (forIn [] _ _) _ _ _;rw[YF];show wpAny_pure<|hQ G' H' s1 j t
end
end RD
namespace RD
open PySem PySem.Spec PyProof.Rows L2 SeqAt
theorem Nx(x:Int):∀xs,(FM x xs).Perm (x::xs)
 | []=>vE _
 |y::ys=>by
  unfold FM;split
  .show vE _
  .show((Nx x ys).cons y).trans (HJ x y ys)
theorem P4:∀xs,(sL xs).Perm xs
 | []=>vE _
 |x::xs=>(Nx x _).trans<|(P4 xs).cons x
theorem zNN(x:Int):∀xs,xs.Pairwise (·<=·)->(FM x xs).Pairwise (·<=·)
 | [],_=>by simp[FM]
 |y::ys,h=>by
  unfold FM;split
  .rename_i j;refine MA.mpr ⟨λz hz=>?_,h⟩;rcases lA.mp hz with rfl|hz
   .show j
   .show C7 j<|(MA.mp h).1 z hz
  .rename_i j;refine MA.mpr ⟨λz hz=>?_,zNN x ys (MA.mp h).2⟩;rcases lA.mp ((Nx x ys).mem_iff.mp hz) with rfl|hz
   .omega
   .show(MA.mp h).1 z hz
theorem Ou:∀xs,(sL xs).Pairwise (·<=·)
 | []=>by simp[sL]
 |x::xs=>zNN x _<|Ou xs
theorem kg:∀(a b:List Int),a.Perm b->a.Pairwise (·<=·)->b.Pairwise (·<=·)->a=b:=λa b p h1 h2=>
 p.eq_of_pairwise (λx y _ _ h3 j=>WT h3 j) h1 h2
def mL(a b:Str):Prop:=vR b a=false
theorem zIf(h1:mL a b)(h2:mL b a):a=b:=by
 unfold mL vR at h1 h2;have j:¬ b.cps.toList<a.cps.toList:=‹h1›
 have z:¬ a.cps.toList<b.cps.toList:=‹h2›
 have h3:a.cps.toList=b.cps.toList:=fH (HD.mp j)<|HD.mp z;cases a;cases b;dsimp[sM];show FJ.mp h3
theorem zIg(h1:mL a b)(h2:mL b c):mL a c:=by
 unfold mL vR at *;have j:¬ b.cps.toList<a.cps.toList:=‹h1›
 have z:¬ c.cps.toList<b.cps.toList:=‹h2›
 have:=List.le_trans (HD.mp j)<|HD.mp z;simpa using HD.mpr this
theorem zNO(h:vR a b=true):mL a b:=by
 unfold mL vR at *;have h':a.cps.toList<b.cps.toList:=‹h›
 simpa using HD.mpr (List.le_of_lt h')
theorem Ny(x:Str):∀xs,(HN x xs).Perm (x::xs)
 | []=>vE _
 |y::ys=>by
  unfold HN;split
  .show((Ny x ys).cons y).trans (HJ x y ys)
  .show vE _
theorem Q4:∀xs,(UM xs).Perm xs
 | []=>vE _
 |x::xs=>(Ny x _).trans<|(Q4 xs).cons x
theorem zNP(x:Str):∀xs,xs.Pairwise mL->(HN x xs).Pairwise mL
 | [],_=>by simp[HN]
 |y::ys,h=>by
  unfold HN;split
  .rename_i j;refine MA.mpr ⟨λz hz=>?_,zNP x ys (MA.mp h).2⟩;rcases lA.mp ((Ny x ys).mem_iff.mp hz) with rfl|hz
   .show zNO j
   .show(MA.mp h).1 z hz
  .rename_i j;have I:mL x y:=by unfold mL;simpa using j
   refine MA.mpr ⟨λz hz=>?_,h⟩;rcases lA.mp hz with rfl|hz
   .show I
   .show zIg I<|(MA.mp h).1 z hz
theorem Ov:∀xs,(UM xs).Pairwise mL
 | []=>by simp[UM]
 |x::xs=>zNP x _<|Ov xs
theorem xv:∀{l:List Str},risingS p l=true->(p::l).Pairwise mL
 | [],_=>by simp
 |x::r,h=>by
  have h':(!ltCps x.cps.toList p.cps.toList&&risingS x r)=true:=h;rw[NB]at h';have h2:=xv h'.2
  have h1:mL p x:=by
   unfold mL vR;have:=h'.1;rw[ltCps_eq]at this;simpa using this
  refine MA.mpr ⟨λz hz=>?_,h2⟩;rcases lA.mp hz with rfl|hz
  .show h1
  .show zIg h1<|(MA.mp h2).1 z hz
theorem xw{l:List Str}(h:sortedS l=true):l.Pairwise mL:=by
 cases l with
 |nil=>simp
 |cons p l=>show xv h
theorem kh(a b:List Str)(p:a.Perm b)(h1:a.Pairwise mL)(h2:b.Pairwise mL):a=b:=
 p.eq_of_pairwise (λx y _ _ h3 j=>zIf h3 j) h1 h2
theorem Nz:∀{xs:List D}{is:List Int},UX xs>is->xs=is.map .int
 | [],is,h=>by cases h;rfl
 |d::r,is,h=>by
  cases d with
  |int i=>
   obtain⟨j,e,rfl⟩:=cA.mp h
   rw[eA,<- Nz e]
  |_=>cases h
theorem Y9:∀{xs:List D}{is:List Str},iS xs>is->xs=is.map .str
 | [],is,h=>by cases h;rfl
 |d::r,is,h=>by
  cases d with
  |str i=>
   obtain⟨j,e,rfl⟩:=cA.mp h
   rw[eA,<- Y9 e]
  |_=>cases h
section
variable {K:Fg}{G:Hp}
theorem zIh:∀{is:List Int}{vs:List V},HA K G (is.map .int) vs->vs=is.map V.int
 | [],vs,h=>yB.mp h
 |i::is,vs,h=>by
  obtain⟨v,r,rfl,h1,h2⟩:=zV.mp h;rw[zv.mp h1,zIh h2];rfl
theorem Oa:∀{is:List Str}{vs:List V},HA K G (is.map .str) vs->vs=is.map V.str
 | [],vs,h=>yB.mp h
 |i::is,vs,h=>by
  obtain⟨v,r,rfl,h1,h2⟩:=zV.mp h;rw[qu.mp h1,Oa h2];rfl
theorem HA.strs:∀(ns:List Str),HA K G (ns.map D.str) (ns.map V.str)
 | []=>HA.nil
 |n::ns=>HA.cons (qu.mpr rfl)<|HA.strs ns
end
theorem J9:∀{ss:List Str}{us:List Value},yK (ss.map V.str) us->uQ us ss
 | [],us,r=>by cases r;show .nil
 |s::ss,us,r=>by
  cases r with
  |cons r1 r2=>obtain⟨t,rfl⟩:=r1;show .cons s t<|J9 r2
theorem Mo:∀{ss:List Str}{us:List Value},uQ us ss->yK (ss.map V.str) us
 |_,_,.nil=>.nil
 |_,_,.cons y t h=>.cons ⟨t,rfl⟩<|Mo h
theorem Mp:∀{ns:List Int}{us:List Value},TK us ns->yK (ns.map V.int) us
 |_,_,.nil=>.nil
 |_,_,.cons y t h=>.cons ⟨t,rfl⟩<|Mp h
section
variable {X:Cx}{a b:Expr}{f g:dC}{fl:dD}{pos:Pos}
def ZR:D->Option (List D)
 |.lst xs=>JQ<|.lst xs
 |_=>none
theorem zGu:BK X (.builtin "sorted") (cF X.K ZR):=by
 intro pins s σ H xs us Q I r h;obtain⟨G,d1,ys,x,rfl,sm,r1,e,k⟩:=h;obtain⟨u,rfl,ru⟩:=GN r
 cases d1 with
 |lst zs=>
  dsimp[ZR,JQ,aW,dA]at e;obtain⟨a,vs,rfl,q,w⟩:=r1.list sm;cases ru;obtain⟨its,U,p,hz⟩:=I.list q;split at e
  .rename_i Z;have l1:=w.length;have l2:=U.length
   have fin:∀{out:Array Value}{kH:List V}{z:List D},yK kH out.toList->HA X.K G z kH->kH.length<=sizeLine->ys=z->EP X pins σ Q (.ref<|s.heap.objs.size+1) { s with heap:=Q7 s.heap its out }:=λ{out kH z} h1 h2 h3 h4=>by
    subst h4;have S:H (s.heap.objs.size+1)=none:=I.hok.fresh<|AC _;obtain⟨e',he⟩:=sortedAll_at s.heap its out;refine⟨.ref<|s.heap.objs.size+1,upd H (s.heap.objs.size+1)<|.lst kH,I.laid (t':=s.toks) (λ_ _=>sortedAll_old) (AC _) ⟨h3,out.toList,e',h1,?_⟩,rfl,k _ kH G _ (zf.newH sm S) S (sm.free S) zL h2⟩;rw[he]
   split at e
   .rename_i is hi;cases e;have:=Nz hi;subst this;have hv:=zIh w;subst hv;refine sorted_ints p.isList (xr U) 01 λout Ij a1 a2 j=>?_
    have O:=kg _ _ (a2.trans (P4 is).symm) j<|Ou is;subst O;refine fin (Mp a1) (HA.ints _) ?_ rfl;have:=(P4 is).length_eq;rw[iA]at l1 ⊢;dsimp[iA]at Z;show DQ 01
   .rename_i hi;obtain⟨ss,e2,rfl⟩:=cA.mp e;have:=Y9 e2;subst this;have hv:=Oa w;subst hv;refine sorted_strs p.isList (J9 U) 01 λout Ij a1 a2 j=>?_
    have O:=kh _ _ (a2.trans (Q4 ss).symm) (xw j)<|Ov ss;subst O;refine fin (Mo a1) (HA.strs _) ?_ rfl;have:=(Q4 ss).length_eq;rw[iA]at l1 ⊢;dsimp[iA]at Z;show DQ 01
  .cases e
 |_=>cases e
def VX(sep:Str):D->Option D
 |.lst xs=>(iS xs).bind λss=>if (ss.map (·.length)).sum+ss.length*sep.length<=1000000 then some (.str<|Txt.join sep ss) else none
 |_=>none
theorem zSt(ha:SR X a f)(fE:bM X (.Constant (.str sep) j p1) "join":=by rfl)(S:SQ X JB [a]:=by rfl)(iE:ZP apos JB:=by rfl)(hs:oG X a []:=by rfl)(Z:WH X JB []:=by rfl):
  SE X (.Call (.Attribute (.Constant (.str sep) j p1) "join" apos) [a] [] JB) (b1 f<|VX sep):=by
 have hm:Ds X "str.join" (λx xs H Q=>x=.str sep/\cR X.K (VX sep) xs H Q):=by
  intro pins s σ H x xs v us Q I rx r ⟨ex,G,d1,d,y,ey,sm,r1,e,k⟩;subst ex ey;obtain⟨t,rfl⟩:=rx;obtain⟨u,rfl,ru⟩:=GN r
  cases d1 with
  |lst zs=>
   obtain⟨ss,z,e⟩:=aA.mp e;split at e
   .rename_i hl;cases e;obtain⟨a,vs,rfl,q,w⟩:=r1.list sm;cases ru;obtain⟨its,vv,p,hz⟩:=I.list q;have:=Y9 z;subst this;have hv:=Oa w;subst hv;show join_list p.isList (J9 vv) 01 λt' k'=>⟨.str _,H,I.tok _,⟨_,rfl⟩,k _ G H (zf.refl sm)<|qu.mpr rfl⟩
   .cases e
  |_=>cases e
 refine WF (IQ PySem.F.plainAttrs_str PySem.F.slot_str_join PySem.F.type_str_join hm zQ9 (yA ha yk hs) fE S iE hs Z) λσ H Q h=>?_
 refine⟨rfl,?_⟩;obtain⟨G,ρ,d,s,er,O,k⟩:=h;obtain⟨d1,z,O⟩:=aA.mp O;show⟨G,ρ,d1,s,er,z,λv1 U H1 t1 r1=>⟨rfl,U,d1,d,v1,rfl,t1.s,r1,O,λv G' H' t r=>k v G' H' (t1.trans t) r⟩⟩
noncomputable def AO(i:Nat)(f:dC):aC:=λρ=>(gL ρ i).bind λxs=>if xs.length<16000000 then (f ρ).map λd=>.nx (ρ.set i<|.l<|xs++[d]) else none
variable {o:Expr}{i:Nat}{apos JB:Pos}
theorem qJ(i:Nat)(ho:PE X o (RG i))(ha:SE X a f)
  (fE:bM X o "append":=by rfl)
  (O:SQ X JB [a]:=by rfl)
  (iE:ZP apos JB:=by rfl) (hs:oG X a []:=by rfl) (U:WH X JB []:=by rfl)
  (S:PK X (.Call (.Attribute o "append" apos) [a] [] JB) none pos:=by rfl) :
  SS X (.Expr (.Call (.Attribute o "append" apos) [a] [] JB) pos) (AO i f):=
 yg (WS (IQ XB lE mE jX ho (yA ha yk hs) fE O iE hs U) S) λE σ H=>by
  rintro⟨G0,H0,G,ρ,o,st,j,k⟩;obtain⟨xs,Y,j⟩:=aA.mp j;split at j
  .rename_i hl;obtain⟨d,Z,rfl⟩:=cA.mp j;have I:=Cf Y;obtain⟨a1,vs,q1,q2,q3,q4⟩:=st.er.own i xs I;refine⟨_,q1,.inl ⟨rfl,vs,MF.of q3⟩,G,ρ,d,st.bs.gh,st.er,Z,λv G' H' t r=>?_⟩;have SC:=st.step t;obtain⟨a2,sO,w1,w2,w3,J⟩:=SC.er.own i xs I;rw[q1]at w1;cases w1;show⟨a1,sO,v,rfl,rfl,w3,DA (by rw[<- J.length];show hl)<|02,k σ G' _<|SC.mut I rfl rfl q1 (λys z=>by cases z;show⟨_,rfl,J.append<|HA.cons r HA.nil⟩) λ_ z=>by cases z⟩
  .cases j
def Qx(i:Nat)(fi f:dC):aC:=λρ=>(f ρ).bind λd=>(gL ρ i).bind λxs=>(fi ρ).bind λdi=>match di with
 |.int n=>(VH xs.length n).map λj=>.nx<|ρ.set i<|.l<|xs.set j d
 |_=>none
theorem zKr{fi:dC}(i:Nat)(ho:PE X o (RG i))(hi:SE X ie fi)(ha:SE X a f) (hg:∀v,assign (.Subscript o ie VE) X.env v=(do
   let ov <- holding [v] (eval o X.env)
   let iv <- holding [v,ov] (eval ie X.env)
   standAt VE
   holding [v,ov,iv] (setItem ov iv v)
   release [v,ov,iv] []):=by intro _;rfl) (hs:jK [.Subscript o ie VE] a pos.line X.env=pure false:=by rfl) (hw:iK [.Subscript o ie VE] a X.env=pure none:=by rfl) (h1:(assignEach [.Subscript o ie VE] X.env).map (·.2)=[assign (.Subscript o ie VE) X.env]:=by rfl):SS X (.Assign [.Subscript o ie VE] a pos) (Qx i fi f):=
 yg (Qz ha (zRB ho hi zKd hg) hs hw h1) λE σ H=>by
  rintro⟨G0,H0,G,ρ,o,st,I,k⟩;obtain⟨d,Z,I⟩:=aA.mp I;obtain⟨xs,e2,I⟩:=aA.mp I;obtain⟨Y,e3,I⟩:=aA.mp I;have J:=Cf e2
  cases Y with
  |int n=>
   obtain⟨j,e4,rfl⟩:=cA.mp I;refine⟨G,ρ,d,st.bs.gh,st.er,Z,λv S H1 t1 r1=>?_⟩;obtain⟨a1,vs,q1,q2,q3,q4⟩:=(st.step t1).er.own i xs J;refine⟨_,q1,S,ρ,_,t1.s,st.er.step t1,e3,λv2 U H2 t2 r2=>?_⟩;have SC:=(st.step t1).step t2;obtain⟨a2,sO,w1,w2,w3,O⟩:=SC.er.own i xs J;rw[q1]at w1;cases w1
   show⟨a1,sO,n,j,rfl,zv.mp r2,w3,by rw[<- O.length];show e4,k σ U _<|SC.mut J rfl rfl q1 (λys z=>by cases z;show⟨_,rfl,O.set j<|Rep.mono t2.g _ _ r1⟩) λ_ z=>by cases z⟩
  |_=>cases I
end
def Ve(K:Fg)(a:Addr):It:=
 ⟨λi H=>∃xs x,MF K H a xs/\xs[i]?>x,λi H x H'=>∃p y,H p=none/\x=.ref p/\H'=upd H p (.tup [.int i,y])/\∀xs,MF K H a xs->xs[i]?>y,λi H=>∃xs,MF K H a xs/\xs.length<=i⟩
noncomputable def rL:Nat->List D->List D
 |_,[]=>[]
 |n,x::xs=>D.tup [.int (n:Int),x]::rL (n+1) xs
theorem U4:∀(n:Nat)(xs:List D),(rL n xs).length=xs.length
 |_,[]=>rfl
 |n,x::xs=>by simp[rL,U4 (n+1) xs]
theorem Oc:∀(n:Nat)(xs:List D)(i:Nat)(d:D),(rL n xs)[i]?>d->∃x,xs[i]?>x/\d=D.tup [.int ((n+i:Nat):Int),x]
 |_,[],_,_,h=>by simp[rL]at h
 |n,x::xs,0,d,h=>by simp[rL]at h;show⟨x,rfl,by simp[h.symm]⟩
 |n,x::xs,i+1,d,h=>by
  obtain⟨y,j,z⟩:=Oc (n+1) xs i d (by simpa[rL] using h);show⟨y,‹j›,by rw[z];congr 3;omega⟩
section
variable {P:Program}{w:World}{K:Fg}
theorem zNQ(a e it:Addr)(UW:e≠it):eP P w K (.Tuple es k VE) (Ve K a) [e,it] e (λi h=>(∃j,BW h e it i j)/\h.IsListIter it a i) where
 mem:=by simp
 obj:=λi h st b hb=>by
  obtain⟨⟨j,he⟩,o,U,hc,hd⟩:=st;rcases lA.mp hb with rfl|hb
  .show⟨_,he,λv z=>by cases z⟩
  .have S:b=it:=‹hb›
   subst S;show⟨o,U,λv z=>by rw[hd]at z;cases z⟩
 keep:=λi h h' st hk=>by
  obtain⟨⟨j,he⟩,o,U,hc,hd⟩:=st;show⟨⟨j,hk e (by simp) _ he⟩,o,hk it (by simp) o U,hc,hd⟩
 item:=by
  intro X S e2 e3 VD i pins s σ H E I hf st go;subst S e2 e3;obtain⟨⟨j,he⟩,J⟩:=st;obtain⟨xs,x,hq,hx⟩:=go;obtain⟨its,vv,p,hz⟩:=I.list hq;obtain⟨u,hu,ru⟩:=vv.get hx;have fe:=hf e (by simp);have fi:=hf it (by simp);have wM:∀b o,H b>o->b≠e:=λb o q z=>by rw[z,fe.1]at q;cases q
  have xM:∀b o,H b>o->b≠it:=λb o q z=>by rw[z,fi.1]at q;cases q
  refine wpAny_pyNext_enum_item he J p.isList ‹hu› UW λh' U MU hT hsz hk=>⟨_,rfl,?_⟩
  refine RN U λZ KU Y=>?_
  have hn:H s.heap.objs.size=none:=I.hok.fresh<|rA _;have O:∀b o,b≠e->b≠it->s.heap.get? b>o->Z.get? b>o:=λb o h1 h2 q=>(Y.2 b h1).trans<|hk b o h1 h2 q
  have xP:e<s.heap.objs.size:=GA he;have Gi:s.heap.objs.size≠e:=KH xP;have FU:Z.get? s.heap.objs.size>{ cls:=.type "tuple",data:=.seq #[.int i s.toks,u] }:=(Y.2 _ Gi).trans hT;have FH:∀b o,H b>o->b≠s.heap.objs.size:=λb o q z=>by rw[z,hn]at q;cases q
  have LU:it<s.heap.objs.size:=by obtain⟨o,q,_⟩:=J;show GA q
  have Fu:∀b∈[e,it],(b∈X.ex\/X.s₀.heap.objs.size<=b)/\b≠X.env.locals/\(∀x c,X.env.cells.lookup x>c->c≠b)/\∀p∈X.pn++pins,p.1≠b:=λb hb=>⟨(hf b hb).2.2.2.1,(hf b hb).2.1,(hf b hb).2.2.2.2.1,(hf b hb).2.2.2.2.2⟩
  have off:∀b,b∉[e,it]->b≠e/\b≠it:=λb hb=>⟨λz=>hb (by simp[z]),λz=>hb<|by simp[z]⟩
  have I':Inv X pins σ (upd H s.heap.objs.size<|.tup [.int i,x]) { s with heap:=Z,toks:=s.toks+1 }:=by
   refine I.step (g':=s.gens) (d':=s.drawn) (ch:=[e,it]) Fu (λb o _ _ hc q _=>O b o (off b hc).1 (off b hc).2 q) (λb o _ _ hc q _=>⟨o.slots,O b o (off b hc).1 (off b hc).2 q⟩)
    (λb o _ q n=>by rw[upd_ne<|OA<|GA q];show n) (λb o hc q=>⟨o,O b o (off b hc).1 (off b hc).2 q⟩)
    (λb ys q=>by rw[upd_ne<|FH b _ q];show q) (λb o' u' q=>by rw[upd_ne<|FH b _ q];show q) (λb ps q=>⟨#[],by rw[upd_ne<|FH b _ q,q];simp⟩)
    (λm hm=>?_) (λb u' q=>?_) I.bare
   .obtain⟨o,xU,ep,FP,r⟩:=hm;show⟨o,xU,ep,O _ o (Ne.symm fe.2.1) (Ne.symm fi.2.1) FP,r⟩
   .by_cases hb:b=s.heap.objs.size
    .subst hb;rw[zL]at q;cases q;show⟨by change 2<=sizeLine;decide,[.int i s.toks,u],.cons ⟨_,rfl⟩<|.cons ru .nil,⟨_,FU,rfl,_,rfl,rfl⟩⟩
    .rw[upd_ne hb]at q;refine(I.hok b u' q).stay (λc v hc r=>?_) (λc r=>by rw[upd_ne<|FH c _ r];show r) λc ys r=>by rw[upd_ne<|FH c _ r];show r
     rcases hc with z|z
     .subst z;show O c v (wM c _ q) (xM c _ q) r
     .show O c v (wM c _ z) (xM c _ z) r
  refine⟨.ref s.heap.objs.size,_,I',rfl,⟨s.heap.objs.size,x,hn,rfl,rfl,λys hy=>?_⟩,⟨⟨_,‹KU›⟩,?_⟩,λb hb=>?_⟩
  .rw[<- I.list_inj hq hy];show hx
  .obtain⟨o,q1,q2⟩:=MU;show⟨o,(Y.2 it<|Ne.symm UW).trans q1,q2⟩
  .have:b≠s.heap.objs.size:=by
    rcases lA.mp hb with z|z
    .rw[z];show OA xP
    .have z':b=it:=‹z›
     rw[z'];show OA LU
   rw[upd_ne this];show(hf b hb).1
 done:=by
  intro X S e2 e3 VD i pins s σ H E I hf st stop;subst S e2 e3;obtain⟨⟨j,he⟩,J⟩:=st;obtain⟨xs,hq,hx⟩:=stop;obtain⟨its,vv,p,hz⟩:=I.list hq;have fi:=hf it (by simp);refine wpAny_pyNext_enum_end (I.ok.hd VD) he J p.isList (by simp;rw[<- vv.length];show hx) λh' hk=>⟨rfl,?_⟩
  show I.turned (t':=s.toks) (λb o hb q=>hk b o hb q) fi.1 fi.2.1 fi.2.2.2.1 fi.2.2.2.2.1 fi.2.2.2.2.2
 self:=λA i s Q E st h=>by
  obtain⟨⟨j,he⟩,_⟩:=st;show AH he h
end
theorem zSu{K:Fg}{G:Hp}{a:Addr}{vs:List V}{ds:List D}(h:MF K G a vs)(r:HA K G ds vs):YM K G (Ve K a) (rL 0 ds) where
 go:=λi H s hi=>by
  rw[U4]at hi;show⟨vs,vs[i]'(by rw[<- r.length];show hi),s.seq h,by simp[<- r.length,hi]⟩
 stop:=λi H s hi=>by
  rw[U4]at hi;show⟨vs,s.seq h,by rw[<- r.length];show hi⟩
 yld:=λi I H x H' s1 s hi y=>by
  obtain⟨p,y,hp,rfl,rfl,hy⟩:=y;refine⟨_,zf.new s hp,λd e=>?_⟩;obtain⟨d',j,rfl⟩:=Oc 0 ds i d e;obtain⟨v,z,e3⟩:=r.get j;have:=hy vs<|(s1.trans s).seq h;rw[z]at this;cases this;refine LR.mpr ⟨p,_,rfl,zL,HA.cons (zv.mpr<|by simp)<|HA.cons ?_ HA.nil⟩;show Rep.mono (yM<|s.free hp) _ _<|Rep.mono s1 _ _ e3
section
variable {X:Cx}{a:Expr}{f:dC}{es:List Expr}{k:Nat}{VE p pos:Pos}
def C8(f:dC):dD:=λρ=>(f ρ).bind λd=>match d with
 |.lst xs=>some<|rL 0 xs
 |_=>none
theorem Qh(hg:Gl X "enumerate")(hm:X.mg "enumerate" = none)(ha:SE X a f)(hs:oG X a []:=by rfl)(O:WH X pos []:=by rfl):
  SI X (.Tuple es k VE) (.Call (.Name "enumerate" p) [a] [] pos) (C8 f):=by
 intro pins s σ H R I ⟨G,ρ,ds,sm,er,Z,kk⟩;obtain⟨d,Y,J⟩:=aA.mp Z
 cases d with
 |lst xs=>
  cases J;refine wpAny_Call_Name_kw<|VR I hg hm boot_enumerate ?_;refine PyProof.Rows.callWith_type1 (UC (yA ha yk hs pos pins s σ H (λvs H'=>∃G' v,vs=[v]/\zf G H G' H'/\Rep X.K G' (.lst xs) v) I ⟨G,ρ,_,sm,er,Y,λv G' H' t r=>⟨G',v,rfl,t,r⟩⟩) λus s1 q9=>?_) hs O;obtain⟨vs,H1,I1,rv,S,v,ev,t1,r1⟩:=q9;subst ev;obtain⟨u,rfl,ru⟩:=GN rv;obtain⟨l,vs,rfl,q,w⟩:=cQ.mp r1;cases ru;obtain⟨its,vv,pl,hz⟩:=I1.list<|t1.s.seq q;refine call_enumerate_list pl.isList λh' he j hsz hk=>?_
  refine AH he ?_;have EH:=λb o (e:s1.heap.get? b>o)=>hk b o e
  have U:Inv X pins σ H1 { s1 with heap:=h' }:=I1.kept (t':=s1.toks) hk;have n1:H1 s1.heap.objs.size=none:=I1.hok.fresh<|rA _;have n2:H1 (s1.heap.objs.size+1)=none:=I1.hok.fresh<|AC _;refine⟨s1.heap.objs.size+1,[s1.heap.objs.size+1,s1.heap.objs.size],_,_,H1,rfl,U,zNQ l (s1.heap.objs.size+1) s1.heap.objs.size<|sS _,⟨⟨_,he⟩,j⟩,λb hb=>?_,kk _ S H1 t1<|zSu q w⟩;rcases lA.mp hb with z|z
  .rw[z];show I1.fpOk (AC _) n2
  .have z':b=s1.heap.objs.size:=‹z›
   rw[z'];show I1.fpOk (rA _) n1
 |_=>cases J
end
end RD
namespace RD
open PySem PySem.Spec PyProof.Rows L2
theorem qO:LB "tuple" = some (.type "tuple"):=by decide +kernel
theorem Cg:LB "int" = some (.type "int"):=by decide +kernel
theorem zRS:LB "list" = some (.type "list"):=by decide +kernel
theorem zVj:LB "dict" = some (.type "dict"):=by decide +kernel
theorem mX:LB "sorted" = some (.builtin "sorted"):=by decide +kernel
theorem RY:LB "all" = some (.builtin "all"):=by decide +kernel
theorem SY:LB "any" = some (.builtin "any"):=by decide +kernel
theorem zVk:LB "bool" = some (.type "bool"):=by decide +kernel
theorem zIi:LB "isinstance" = some (.builtin "isinstance"):=by decide +kernel
structure Bl(mg:gF):Prop where
 len:mg "len" = none
 range:mg "range" = none
 enumerate:mg "enumerate" = none
 sorted:mg "sorted" = none
 tuple:mg "tuple" = none
 list:mg "list" = none
 int:mg "int" = none
 dict:mg "dict" = none
 isinstance:mg "isinstance" = none
 all:mg "all" = none
 any:mg "any" = none
 str:mg "str" = none
 bool:mg "bool" = none
theorem gl{X:Cx}(h:X.env.kindOf x>.globalImplicit):Gl X x:=h
theorem kM{A:Around}(hr:IF k A):A.units+30<cLine:=by have:=hr.un;omega
structure zq(P:Program)(w:World)(K:Fg)(mg:gF)(base:Heap)(k:Nat)(x:Str)(n:Nat)(F:List D->Option D):Prop where
 ex:∃f fd ps,KI P w K mg base EI k f fd ps (oV K F n)/\mg x>.ref f/\pB K (.ref f)=true/\L2.OL K fd ps []
section
variable {X:Cx}{e:Expr}{es:List Expr}{fl:dD}{pos:Pos}
theorem zJ{F:List D->Option D}(h:zq X.prog X.w X.K X.mg X.base k x n F)(hr:IF k X.A)(J:X.env.kindOf x>.globalImplicit)(O:(e::es).length=n)(ha:SA X (e::es) fl)(I:BM x:=by decide)(he:oG X e es:=by rfl)(j:WH X pos es:=by rfl):SE X (.Call (.Name x p) (e::es) [] pos) (λρ=>(fl ρ).bind F):=by
 obtain⟨f,fd,ps,z,hm,hk,hb⟩:=h.ex;show zSo z hr J hm hk hb O ha I he j
end
theorem yv{P:Program}{w:World}{K:Fg}{mg:gF}{base:Heap}{x qual:Str}{st:Stmt}{fa:Addr}{fd:FuncData}{N ps:List Str}{k:Nat}{F:aC}{f:List D->Option D}
  (j:nN K x qual st fa fd) (hm:mg x>.ref fa) (hb:L2.OL K fd ps []) (S:zU N ps (zI st))
  (I:∀(z:Value)(A:Around)(outer:List Env)(s:Shared)(H:Hp),IF k (A.deeper<|envOfC qual (zI st) s.heap.objs.size fa z)->QJ (QL EI P w K mg base N qual (zI st) fa z A outer s H E0).nox (yF st) F)
  (hf:∀ds d,ds.length=ps.length->f ds>d->AI N F ds>d):zq P w K mg base (k+1) x ps.length f:=
 ⟨fa,fd,ps,zVe j S I hf,hm,j.kp,hb⟩
theorem zk(h:decide (sT N nm).Nodup=true):(sT N nm).Nodup:=of_decide_eq_true h
end RD
namespace PySem
open PySem.Spec PyProof.Rows
theorem zNR:QN (.type "tuple") "keys" = pure none:=am_miss_of_fast (by decide +kernel)
set_option maxHeartbeats 1000000 in
theorem zDH{A:Around}{E:vD}{s:Shared}{o:Obj}{name:Str}{Q:Option Value->Shared->Prop}(hx:s.heap.get? a>o)(hc:o.cls=.type "tuple")(z:o.data=.seq xs k)(hd:o.dict=none)(O:QN (.type "tuple") name=pure none)(S:(["__module__","__name__","__qualname__","__doc__","__annotations__"]:List Str).contains name=false)(hA:A.handled=none)(h:∀h' tk,(∀b ob,s.heap.get? b>ob->h'.get? b>ob)->Q none { s with heap:=h',toks:=tk })(hsz:name.length+100<=sizeLine:=by size_fits):
  wpAny (model prog w) A (getAttr? (.ref a) name) Q E s:=by
 obtain⟨c,Z,Y,sl⟩:=o;simp only at hc z hd;subst hc z hd;obtain⟨hp,g,d,tk,os⟩:=s;have J:∀I,(⟨hp,g,d,I,os⟩:Shared).TypeIs (.ref a) "tuple":=λ_=>⟨_,hx,rfl⟩
 have f1:=sub_AttributeError;have f3:=F.slot_tuple_getattribute.lookup;have f4:=F.slot_tuple_getattribute.bind<|.ref a;have f5:=am_tuple_getattr_none;unfold getAttr? getAttrBy? getAttrBy
 repeat (any_goals (first|assumption|show J _|((with_reducible change wpAny _ _ (call (Value.builtin "tuple.__getattribute__") _ _) _ _ _);refine wK F.slot_tuple_getattribute (J _) am_entry_tuple_getattribute (F.args_tuple_getattribute_2 _ _) (meets_getattribute_miss_tuple a xs k sl name _ O S hsz) ⟨hx,hA,λh' I e j=>?_⟩)|wp_step))
 obtain⟨t',u',he⟩:=j.there;change wpAny _ _ (getattributeRaised _ _ _ _ _ _ _) _ _ _;unfold getattributeRaised
 repeat (any_goals (first|assumption|wp_step))
 show h _ _ j.keeps
end PySem
namespace PySem
open PySem.Spec PyProof.Rows
namespace F
theorem entry_dict_update_loop:entryFor table "dict.update.loop" = some Builtin.«dict.update.loop»:=entryFor_of_tree (by kernel_rfl)
theorem plain_dict_update_loop:plainId "dict.update.loop" = true:=by decide +kernel
end F
section
variable {prog:Program}{w:World}{K:Type}[DecidableEq K]{knd:KeyKind prog w K}{A:Around}{R:jJ->Shared->Prop}
theorem zEu(hA:A.handled=none){items:Array Value}(Gu:d≠a)(Gv:d≠it)(hai:a≠it)(ps:List (K×Value))(hl:ps.length=items.size):
  ∀(n i:Nat)(s:Shared)(kvs:List (K×Value)),items.size-i=n->i<=items.size->s.heap.IsTupleIter it a i->s.heap.IsTuple a items->s.heap.DictOf knd d kvs->kvs.length<=i ->
   (∀j (hj:j<items.size),i<=j->∃b I,items[j]=.ref b/\b≠d/\b≠it/\s.heap.IsTuple b #[I,(ps[j]'01).2]/\knd.is (ps[j]'01).1 I=true)->items.size<=1000 ->
   (∀h' tk,h'.DictOf knd d ((ps.drop i).foldl (λacc p=>stored acc p.1 p.2) kvs)->(∀b o,b≠d->b≠it->s.heap.get? b>o->h'.get? b>o)->R (.ok<|.ret .none) { s with heap:=h',toks:=tk }) ->
   xE (model prog w) A (.builtin "dict.update.loop" ⟨[.ref d,.ref it,rawInt i,.none],[]⟩) R s:=by
 intro n
 induction n with
 |zero=>
  intro i s kvs hk hi J Y hd hlk A8 hsz O;have Gy:i=items.size:=01
  subst Gy;refine codeAny_builtin F.entry_dict_update_loop ?_;rw[Around.under_plainId F.plain_dict_update_loop _];change wpAny _ A.in1 (pyNext (.ref it) >>= _) _ _ s;refine wpAny_bind (wpAny_pyNext_tuple_end hA J Y (by simp) λh' lI=>?_);change wpAny _ A.in1 (Cs d [] >>= λ_=>ret UF) _ _ _;refine wpAny_bind<|wpAny_pure<|wpAny_pure ?_;have e:ps.drop items.size=[]:=by rw[<- hl];show dH
  rw[e]at O;refine O h' s.toks ?_ λb o h1 h2 q=>lI b o h2 q
  obtain⟨o,es,ep,ho,rest⟩:=hd
  show⟨o,es,ep,lI d o Gv ho,rest⟩
 |succ n ih=>
  intro i s kvs hk hi J Y hd hlk A8 hsz O;have EH:i<items.size:=01
  have hlp:i<ps.length:=01
  obtain⟨b,I,hb1,hb2,hb3,hb4,hb5⟩:=A8 i EH<|rA _;refine codeAny_builtin F.entry_dict_update_loop ?_;rw[Around.under_plainId F.plain_dict_update_loop _];change wpAny _ A.in1 (pyNext (.ref it) >>= _) _ _ s;refine wpAny_bind (wpAny_pyNext_tuple_item J Y (x:=.ref b) (by rw[<- hb1];simp[EH]) λU NU IP=>?_)
  have FS:U.IsTuple b #[I,(ps[i]'hlp).2]:=by
   obtain⟨o,q,r⟩:=hb4;show⟨o,(IP.2 b hb3).trans q,r⟩
  have EZ:U.DictOf knd d kvs:=by
   obtain⟨o,es,ep,ho,rest⟩:=hd;show⟨o,es,ep,(IP.2 d Gv).trans ho,rest⟩
  have hT:(⟨U,s.gens,s.drawn,s.toks,s.os⟩:Shared).TypeIs (.ref b) "tuple":=by
   obtain⟨o,q,c,_⟩:=FS;show⟨o,q,c⟩
  obtain⟨ob,qb,cb,nb,db⟩:=id FS;change wpAny _ A.in1 (holding [AB b] _ >>= _) _ _ _;refine wpAny_bind<|wpAny_holding ?_;refine wpAny_bind ?_
  have h6:wpAny (model prog w) A.in1 (aK<|.ref b) (λl s'=>l=[I,(ps[i]'hlp).2]/\s'=⟨U,s.gens,s.drawn,s.toks,s.os⟩) (λ_ _=>False) ⟨U,s.gens,s.drawn,s.toks,s.os⟩:=by
   unfold aK;refine wpAny_bind<|wpAny_typeOf hT ?_;rw[if_pos<|02];refine wpAny_bind (wpAny_seqItems qb db<|wpAny_pure ⟨by simp,rfl⟩)
  refine wpAny_tryCatch (wpAny_mono h6 (λl s' WW=>?_) λ_ _ z=>z.elim);obtain⟨rfl,rfl⟩:=WW;change wpAny _ _ (holding [I,(ps[i]'hlp).2]<|dictSet d I (ps[i]'hlp).2) _ _ _;refine wpAny_holding (wpAny_dictSet_pairs (hsz:=vA (show kvs.length<=1000 by omega)<|02) hb5 EZ λZ FZ KS=>?_);refine wpAny_pure ⟨plainId_quiet F.plain_dict_update_loop _,?_⟩
  have OU:Z.IsTupleIter it a (i+1):=by
   obtain⟨o,q,r⟩:=NU;show⟨o,(KS.2 it<|Ne.symm Gv).trans q,r⟩
  have kp:∀b o,b≠d->b≠it->s.heap.get? b>o->Z.get? b>o:=λb o q1 q2 q3=>(KS.2 b q1).trans<|(IP.2 b q2).trans q3
  have SZ:Z.IsTuple a items:=by
   obtain⟨o,q,r⟩:=Y;show⟨o,kp a o (Ne.symm Gu) hai q,r⟩
  have S:(stored kvs (ps[i]'hlp).1 (ps[i]'hlp).2).length<=i+1:=by
   unfold stored;split
   .rw[iA];omega
   .rw[IA];simp;omega
  have:=ih (i+1) ⟨Z,s.gens,s.drawn,s.toks+1,s.os⟩ (stored kvs (ps[i]'hlp).1 (ps[i]'hlp).2) 01 EH OU SZ FZ S (λj hj dM=>by
   obtain⟨b',Ia,c1,c2,c3,⟨o',c4,c5⟩,c6⟩:=A8 j hj 01;show⟨b',Ia,c1,c2,c3,⟨o',kp b' o' c2 c3 c4,c5⟩,c6⟩) hsz (λh' tk wN lI=>by
   have e:ps.drop i=ps[i]'hlp::ps.drop (i+1):=cD hlp;rw[e,JC]at O;show O h' tk wN λb o q1 q2 q3=>lI b o q1 q2<|kp b o q1 q2 q3)
  have e2:((i+1:Nat):Int)=(i:Int)+1:=by push_cast;rfl
  rw[e2]at this;show this
end
end PySem
namespace RD
open PySem PySem.Spec PyProof.Rows L2
noncomputable def uK:D->Option kC
 |.int i=>some<|.inl i
 |.str x=>some<|.inr x
 |_=>none
noncomputable def HX:List D->Option (List<|kC×D)
 | []=>some []
 |.tup [k,v]::r=>(uK k).bind λk'=>(HX r).map ((k',v) :: ·)
 |_=>none
noncomputable def ZM(kvs:List (kC×D))(k:kC)(v:D):List (kC×D):=if (kvs.any λkv=>decide<|kv.1=k)=true then kvs.map (λkv=>if kv.1=k then (kv.1,v) else kv) else kvs++[(k,v)]
noncomputable def VM(kvs:List (kC×D))(k:kC):Option D:=(kvs.find? λkv=>decide<|kv.1=k).map (·.2)
def WX:D->Option (List<|kC×D)
 |.tup xs=>if xs.length<=1000 then (HX xs).map λps=>ps.foldl (λacc p=>ZM acc p.1 p.2) [] else none
 |_=>none
section
variable {K:Fg}{G:Hp}
theorem v5:pG K G [] []:=⟨rfl,HA.nil⟩
theorem V4(r:Rep K G d v)(h:pG K G kvs ws):pG K G ((k,d)::kvs) ((k,v)::ws):=⟨by simp[h.1],HA.cons r h.2⟩
theorem A5{p:kC×D}(h:pG K G (p::kvs) ws):∃v r,ws=(p.1,v)::r/\Rep K G p.2 v/\pG K G kvs r:=by
 obtain⟨h1,h2⟩:=h
 cases ws with
 |nil=>simp at h1
 |cons q ws=>
  obtain⟨k,v⟩:=q;dsimp[eA,pC]at h1;obtain⟨j,z⟩:=h1;obtain⟨r1,r2⟩:=HA.inv h2;show⟨v,ws,by simp[j],r1,z,r2⟩
theorem pG.length{kvs:List (kC×D)}{ws:List (kC×V)}(h:pG K G kvs ws):kvs.length=ws.length:=by
 have:=congrArg HE h.1;simpa using this
theorem pG.any:∀{kvs:List (kC×D)}{ws:List (kC×V)},pG K G kvs ws->(kvs.any λkv=>decide<|kv.1=k)=ws.any λkv=>decide (kv.1=k)
 |[],ws,h=>by
  have:=h.length
  cases ws with
  |nil=>rfl
  |cons _ _=>simp at this
 |p::kvs,ws,h=>by
  obtain⟨v,r,rfl,_,h2⟩:=A5 h;rw[mD,mD,pG.any h2]
theorem pG.snoc(r:Rep K G d v):∀{kvs:List (kC×D)}{ws:List (kC×V)},pG K G kvs ws->pG K G (kvs++[(k,d)]) (ws++[(k,v)])
 |[],ws,h=>by
  have:=h.length
  cases ws with
  |nil=>show V4 r v5
  |cons _ _=>simp at this
 |p::kvs,ws,h=>by
  obtain⟨z,j,rfl,h1,h2⟩:=A5 h;show V4 (k:=p.1) h1<|pG.snoc r h2
theorem pG.repl(r:Rep K G d v):∀{kvs:List (kC×D)}{ws:List (kC×V)},pG K G kvs ws->pG K G (kvs.map λkv=>if kv.1=k then (kv.1,d) else kv) (ws.map λkv=>if kv.1=k then (kv.1,v) else kv)
 |[],ws,h=>by
  have:=h.length
  cases ws with
  |nil=>show v5
  |cons _ _=>simp at this
 |p::kvs,ws,h=>by
  obtain⟨z,j,rfl,h1,h2⟩:=A5 h;rw[eA,eA];by_cases e:p.1=k
  .rw[if_pos e,if_pos e];show V4 r<|pG.repl r h2
  .rw[if_neg e,if_neg e];show V4 (k:=p.1) h1<|pG.repl r h2
theorem pG.put(r:Rep K G d v)(h:pG K G kvs ws):pG K G (ZM kvs k d) (BI ws k v):=by
 unfold ZM BI;rw[h.any];split
 .show h.repl r
 .show h.snoc r
theorem pG.get:∀{kvs:List (kC×D)}{ws:List (kC×V)},pG K G kvs ws->(VM kvs k=none/\vG ws k=none)\/∃d v,VM kvs k>d/\vG ws k>v/\Rep K G d v
 |[],ws,h=>by
  have:=h.length
  cases ws with
  |nil=>show .inl ⟨rfl,rfl⟩
  |cons _ _=>simp at this
 |p::kvs,ws,h=>by
  obtain⟨j,z,rfl,h1,h2⟩:=A5 h;by_cases e:p.1=k
  .show .inr ⟨p.2,j,by simp[VM,iB,e],Al e,h1⟩
  .rcases pG.get (k:=k) h2 with⟨a,b⟩|⟨d,v,a,b,c⟩
   .show .inl ⟨by simpa[VM,iB,e] using a,by rw[l5 e];show b⟩
   .show .inr ⟨d,v,by simpa[VM,iB,e] using a,by rw[l5 e];show b,c⟩
theorem pG.fold{ps:List (kC×D)}:∀{ws:List (kC×V)}{kvs:List (kC×D)}{us:List (kC×V)},pG K G ps ws->pG K G kvs us->pG K G (ps.foldl (λacc p=>ZM acc p.1 p.2) kvs) (ws.foldl (λacc p=>BI acc p.1 p.2) us):=by
 induction ps with
 |nil=>
  intro ws kvs us h h';have:=h.length
  cases ws with
  |nil=>show h'
  |cons _ _=>simp at this
 |cons p ps ih=>
  intro ws kvs us h h';obtain⟨z,j,rfl,h1,h2⟩:=A5 h;change pG K G (ps.foldl _<|ZM kvs p.1 p.2) (j.foldl _<|BI us p.1 z);show ih (ws:=j) h2<|h'.put h1
end
theorem zSv{ws:List (kC×V)}:∀{qs:List (kC×Value)}{us:List (kC×V)}{vs:List (kC×Value)},KV ws qs->KV us vs->KV (ws.foldl (λacc p=>BI acc p.1 p.2) us) (qs.foldl (λacc p=>stored acc p.1 p.2) vs):=by
 induction ws with
 |nil=>intro qs us vs h h';cases h;show h'
 |cons p ps ih=>
  intro qs us vs h h'
  cases h with
  |cons h1 h2=>
   obtain⟨e,r⟩:=h1;rw[JC,JC,<- e];show ih h2<|h'.put p.1 r
theorem zPs{ws:List (kC×V)}:∀{us:List (kC×V)},(ws.foldl (λacc p=>BI acc p.1 p.2) us).length<=us.length+ws.length:=by
 induction ws with
 |nil=>intro us;simp
 |cons p ps ih=>
  intro us;rw[JC];have h1:=ih (us:=BI us p.1 p.2);have h2:=O4 us p.1 p.2;dsimp[kA];omega
section
variable {X:Cx}
theorem QR{K:Fg}{G:Hp}{d:D}{k:kC}{v:V}(h:uK d>k)(r:Rep K G d v):v=kV k:=by
 cases d with
 |int i=>cases h;show zv.mp r
 |str x=>cases h;show qu.mp r
 |_=>cases h
theorem zGw{pins:rE}{s:Shared}(I:Inv X pins σ H s)(sm:zh G H):∀{xs:List D}{vs:List V}{its:List Value}{ps:List (kC×D)},HX xs>ps->HA X.K G xs vs->yK vs its ->
  ∃(ws:List (kC×V))(qs:List (kC×Value)),pG X.K G ps ws/\KV ws qs/\qs.length=its.length /\
   ∀j (S:j<its.length) (hq:j<qs.length),∃b J,its[j]=.ref b/\s.heap.IsTuple b #[J,qs[j].2]/\(z9 X.prog X.w).is qs[j].1 J=true
 |[],vs,its,ps,h,r,q=>by
  cases h;have:=yB.mp r;subst this;cases q
  show⟨[],[],v5,.nil,rfl,λj S=>by simp at S⟩
 |d::xs,vs,its,ps,h,r,q=>by
  unfold HX at h;split at h
  .cases (by assumption:_=[])
  .rename_i k v r' U;cases U;obtain⟨k',e1,h⟩:=aA.mp h;obtain⟨O1,e2,rfl⟩:=cA.mp h;obtain⟨v0,kH,rfl,r1,r2⟩:=zV.mp r
   cases q with
   |cons q1 q2=>
    rename_i u0 Zv;obtain⟨ws,qs,a1,a2,Z,a4⟩:=zGw I sm e2 r2 q2;obtain⟨b,Y,rfl,sb,rb⟩:=XS r1;cases q1;obtain⟨w1,t1,rfl,rk,t2⟩:=zV.mp rb;obtain⟨w2,t3,rfl,rv,t4⟩:=zV.mp t2;have:=yB.mp t4;subst this;have ek:=QR e1 rk;subst ek;obtain⟨itb,Y,tb,_⟩:=I.tuple<|yf sm sb;obtain⟨u1,u2,rfl,p1,p2⟩:=zVF Y;refine⟨(k',w2)::ws,(k',u2)::qs,V4 rv a1,.cons ⟨rfl,p2⟩ a2,by simp[Z],λj S hq=>?_⟩
    cases j with
    |zero=>show⟨b,u1,rfl,tb,fS p1⟩
    |succ j=>show a4 j ‹S› ‹hq›
  .cases h
def cFD(K:Fg)(op:D->Option (List<|kC×D)):List V->Hp->VK->Prop:=λxs H Q=>∃G d1 kvs x,xs=[x]/\zh G H/\PH K G H d1 x/\op d1>kvs /\
 ∀a ws G' H',zf G H G' H'->H a=none->G' a=none->H' a>.dK ws->pG K G' kvs ws->Q (.ref a) H'
theorem zLy(VD:X.calm=true):BK X (.type "dict") (cFD X.K WX):=by
 intro pins s σ H xs us Q I r h;obtain⟨G,d1,kvs,x,rfl,sm,r1,e,k⟩:=h;obtain⟨u,rfl,ru⟩:=GN r
 cases d1 with
 |tup zs=>
  dsimp[WX]at e;split at e
  .rename_i hl;obtain⟨ps,e1,rfl⟩:=cA.mp e;obtain⟨a,vs,rfl,q,w⟩:=r1.tup sm;cases ru;obtain⟨its,vv,tn,hz⟩:=I.tupleN q;obtain⟨ws,qs,a1,a2,a3,a4⟩:=zGw I sm e1 w vv;have l1:=w.length;have l2:=vv.length;have Z:H s.heap.objs.size=none:=I.hok.fresh<|rA _;refine callType_codes (Q₁:=λobj mC=>obj=.ref s.heap.objs.size/\mC={ s with heap:=s.heap.push { cls:=.type "dict",data:=.dict #[] } }) F.kt_called_dict (F.kt_typeCall_dict_1 _) F.entry_dict_init (kt_code_dict_new _ ⟨rfl,rfl⟩) ?_;rintro obj mC ⟨rfl,rfl⟩;have RU:(s.heap.push { cls:=.type "dict",data:=.dict #[] }).DictOf (z9 X.prog X.w) s.heap.objs.size []:=iN s.heap;have S:a<s.heap.objs.size:=tn.lt
   have Zr:uO (s.heap.push { cls:=.type "dict",data:=.dict #[] }) a its.toArray:=by
    obtain⟨o,q1,O⟩:=tn;show⟨o,oA _ q1,O⟩
   have sz1:(s.heap.push { cls:=.type "dict",data:=.dict #[] }).objs.size=s.heap.objs.size+1:=OE ..;refine⟨RU.typeIs,F.args_dict_init_2 _ _,?_⟩;unfold Builtin.«dict.__init__»;refine wpAny_bind ?_;unfold Cu;refine wpAny_bind<|wpAny_notOrdered_dict RU.typeIs ?_;change wpAny _ _ (pure (s.heap.objs.size,[AB a])) _ _ _;refine wpAny_pure ?_;change wpAny _ _ (GJ "dict.__init__" s.heap.objs.size (.ref a) [] .none) _ _ _;unfold GJ;refine wpAny_bind<|wpAny_typeOf (T:="tuple") Zr.tup.typeIs ?_;rw[if_pos<|02];obtain⟨o,ho,hc,n,hd,HS⟩:=id Zr;refine wpAny_bind (zDH ho hc hd HS zNR (by decide +kernel) (I.ok.hd VD) (λJ V3 k₂=>?_)<|02);change wpAny _ _ (rule _ >>= _) _ _ _;refine wpAny_bind<|wpAny_rule ?_;have tn2:uO J a its.toArray:=⟨o,k₂ a o ho,hc,n,hd,HS⟩
   refine wpAny_bind<|wpAny_pyIter_tuple (show J.IsTuple a its.toArray from tn2.tup) ?_
   have Y:s.heap.objs.size<J.objs.size:=by
    have q1:(s.heap.push { cls:=.type "dict",data:=.dict #[] }).get? s.heap.objs.size>{ cls:=.type "dict",data:=.dict #[] }:=KA _ rfl;show GA<|k₂ _ _ q1
   have kp:∀b ob,s.heap.get? b>ob->(J.push { cls:=.type "tuple_iterator",data:=.fields #[.ref a,.int 0 0] }).get? b>ob:=λb ob q=>oA _<|k₂ b ob<|oA _ q
   have kD:(J.push { cls:=.type "tuple_iterator",data:=.fields #[.ref a,.int 0 0] }).DictOf (z9 X.prog X.w) s.heap.objs.size []:=by
    obtain⟨od,es,ep,q1,O⟩:=RU;show⟨od,es,ep,oA _<|k₂ _ _ q1,O⟩
   have tn3:(J.push { cls:=.type "tuple_iterator",data:=.fields #[.ref a,.int 0 0] }).IsTuple a its.toArray:=⟨o,oA _<|k₂ a o ho,hc,n,hd⟩
   refine wpAny_pure ⟨plainId_quiet F.plain_dict_update_loop _,?_⟩;refine zEu (A:=X.A.in1) (knd:=z9 X.prog X.w) (a:=a) (items:=its.toArray) (I.ok.hd VD) (KH S) (OA Y) (OA<|KJ S Y) qs (by rw[a3];simp) _ 0 ⟨J.push { cls:=.type "tuple_iterator",data:=.fields #[.ref a,.int 0 0] },s.gens,s.drawn,V3,s.os⟩ [] rfl (EB _) ⟨_,KA _ rfl,rfl,rfl⟩ tn3 kD (rA _) (λj hj _=>?_) (by rw[sA,<- l2,<- l1];show hl) λh' tk wN lI=>?_
   .obtain⟨b,key,b1,b2,b3⟩:=a4 j ‹hj› (by rw[a3];simpa using hj);obtain⟨ob,q1,O⟩:=b2;have blt:=GA q1;show⟨b,key,‹b1›,OA blt,OA<|KJ blt Y,⟨ob,kp b ob q1,O⟩,b3⟩
   .have kp':∀b ob,s.heap.get? b>ob->h'.get? b>ob:=λb ob q=>lI b ob (OA<|GA q) (OA<|KJ (GA q) Y) (kp b ob q)
    rw[BL]at wN
    have U:(ws.foldl (λacc p=>BI acc p.1 p.2) []).length<=sizeLine:=by
     have q1:=zPs (ws:=ws) (us:=[]);have O:=Paired.length a2;dsimp[KC]at q1;show DQ 01
    have new:BJ X.prog X.w (upd H s.heap.objs.size<|.dK<|ws.foldl (λacc p=>BI acc p.1 p.2) []) h' s.heap.objs.size (.dK<|ws.foldl (λacc p=>BI acc p.1 p.2) []):=
     ⟨U,beq_eq_false_iff_ne.mpr<|Ne.symm<|OA I.big,_,zSv a2 .nil,wN⟩
    show⟨rfl,⟨.ref s.heap.objs.size,_,I.laid (t':=tk) kp' (rA _) new,rfl,k _ _ G _ (zf.newH sm Z) Z (sm.free Z) zL<|pG.fold a1 v5⟩⟩
  .cases e
 |_=>cases e
variable {a e:Expr}{f:dC}{i:Nat}{x:Str}{pos pos' p1:Pos}
def tFD(K:Fg)(f:lB->Option (List<|kC×D)):TE:=λσ H Q=>∃G ρ kvs,zh G H/\Er K G H ρ σ/\f ρ>kvs /\
 ∀a ws G' H',zf G H G' H'->H a=none->G' a=none->H' a>.dK ws->pG K G' kvs ws->Q (.ref a) H'
noncomputable def Sn(i:Nat)(f:lB->Option (List<|kC×D)):aC:=λρ=>(f ρ).map λd=>.nx<|ρ.set i<|.m d
theorem zSw{j:lB->Option (List<|kC×D)}(i:Nat)(he:PE X e (tFD X.K j))(O:X.N.Nodup)(hi:X.N[i]?>x)(hx:Loc X.env.scope x)(hs:PK X e (some<|.Name x pos') pos:=by rfl)
  (hf:SN X x:=by first|show .inl rfl|show .inr rfl|assumption):SS X (.Assign [.Name x pos'] e pos) (Sn i j):=
 yg (aT O hi hx he hs hf) λQ σ H=>by
  rintro⟨G0,H0,G,ρ,o,st,J,k⟩;obtain⟨d,I,rfl⟩:=cA.mp J;refine⟨G,ρ,d,st.bs.gh,st.er,I,λa vs G' H' t h1 h2 h3 r=>k _ G' H'<|st.setOwn t rfl h1 h2 (λ_ z=>by cases z) λxs z=>?_⟩;cases z;show⟨vs,h3,r⟩
def zT(i:Nat)(f:dC):aC:=Sn i λρ=>(f ρ).bind WX
def Bt(i:Nat):aC:=Sn i λ_=>some []
theorem Mq(i:Nat)(z:X.N.Nodup)(hi:X.N[i]?>x)(hx:Loc X.env.scope x)(hs:PK X (.Dict [] [] p1) (some<|.Name x pos') pos:=by rfl)
  (hf:SN X x:=by first|show .inl rfl|show .inr rfl|assumption):SS X (.Assign [.Name x pos'] (.Dict [] [] p1) pos) (Bt i):=
 zSw i (WF zKh λσ H Q=>by rintro⟨G,ρ,kvs,sm,er,j,k⟩;cases j;showλp hp=>k p [] G _ (zf.newH sm hp) hp (sm.free hp) zL v5) z hi hx hs hf
noncomputable def gM(ρ:lB)(i:Nat):Option (List<|kC×D):=match ρ[i]? with
 |some (.m kvs)=>some kvs
 |_=>none
theorem Ci{ρ:lB}(h:gM ρ i>xs):ρ[i]?>.m xs:=by
 unfold gM at h;split at h
 .cases h;assumption
 .cases h
def VY(i:Nat)(f:dC):dC:=λρ=>(gM ρ i).bind λkvs=>(f ρ).bind λd=>(uK d).bind λk=>VM kvs k
theorem zSx{b o:Expr}(hu:X.A.units+1<cLine)(i:Nat)(ho:PE X o (RG i))(hb:SE X b f)(hs:iW b:=by intro _ _;rfl):SE X (.Subscript o b pos) (VY i f):=WF (Q5 hu ho hb hs) λσ H Q=>by
 rintro⟨G,ρ,d,s,er,Z,k⟩;obtain⟨kvs,U,tM⟩:=aA.mp Z;obtain⟨S,Y,O⟩:=aA.mp tM;obtain⟨j,e3,I⟩:=aA.mp O;have J:=Ci U;obtain⟨a1,ws,q1,q2,q3,q4⟩:=er.dic i kvs J;refine⟨_,q1,G,ρ,S,s,er,Y,λv G' H' t r=>?_⟩;obtain⟨a2,RS,w1,w2,w3,w4⟩:=(er.step t).dic i kvs J;rw[q1]at w1;cases w1;have ek:=QR e3 r;subst ek;rcases w4.get (k:=j) with⟨z,_⟩|⟨d',v',z1,z2,z3⟩
 .rw[z]at I;cases I
 .rw[z1]at I;cases I;show⟨a1,v',rfl,by rw[<- z2];show LI.k (k:=j) w3,k _ G' H' t z3⟩
def Eg(neg:Bool)(i:Nat)(f:dC):iF:=λρ=>(f ρ).bind λd=>(gM ρ i).bind λkvs=>(uK d).map λk=>if neg then !(VM kvs k).isSome else (VM kvs k).isSome
theorem zSy{I:Bool}{Q:Bool->Hp->Prop}(h:Jx X.K (Eg I i f) σ H Q):
  tE X.K f σ H λy H1=>RG i σ H1 λx H2=>∃a o,x=.ref a/\LI H2 a y o/\Q (if I then !o.isSome else o.isSome) H2:=by
 obtain⟨G,ρ,b,s,er,Y,k⟩:=h;obtain⟨O,U,tM⟩:=aA.mp Y;obtain⟨kvs,S,J⟩:=aA.mp tM;obtain⟨j,e3,rfl⟩:=cA.mp J;have gI:=Ci S;refine⟨G,ρ,O,s,er,U,λv G' H' t r=>?_⟩;obtain⟨a2,RS,w1,w2,w3,w4⟩:=(er.step t).dic i kvs gI;have Z:=QR e3 r;subst Z;refine⟨_,w1,a2,_,rfl,LI.k (k:=j) w3,?_⟩;rcases w4.get (k:=j) with⟨z,z'⟩|⟨d',v',z1,z2,z3⟩
 .rw[z'] ;have:=k G' H' t;rw[z]at this;show this
 .rw[z2];have:=k G' H' t;rw[z1]at this;show this
theorem zVl(J:X.A.units+1<cLine)(i:Nat)(I:PE X o (RG i))(ha:SE X a f)(hm:behindInMarks .In o=false:=by rfl):SB X (.Compare a [.In] [o] pos) (Eg false i f):=
 UV (zRA (zRF J ha I) hm) λσ H Q h=>by
  obtain⟨G,ρ,j,s,er,z,k⟩:=zSy h;refine⟨G,ρ,j,s,er,z,λv G' H' t r=>?_⟩;obtain⟨Z,q1,a2,O,S,U,Y⟩:=k v G' H' t r;show⟨Z,q1,a2,O,S,U,_,rfl,Y⟩
def Bu(i:Nat)(fk f:dC):aC:=λρ=>(f ρ).bind λd=>(gM ρ i).bind λkvs=>(fk ρ).bind λdk=>(uK dk).bind λk=>if kvs.length<1000000 then some (.nx<|ρ.set i<|.m<|ZM kvs k d) else none
theorem Qi{o J:Expr}{fk:dC}{VE:Pos}(hu:X.A.units+1<cLine)(i:Nat)(ho:PE X o (RG i))(hi:SE X J fk)(ha:SE X a f)(hs:PK X a (some<|.Subscript o J VE) pos:=by rfl):
  SS X (.Assign [.Subscript o J VE] a pos) (Bu i fk f):=
 yg (zM4 hu ho hi ha hs) λE σ H=>by
  rintro⟨G0,H0,G,ρ,o,st,ef,k⟩;obtain⟨d,e1,tM⟩:=aA.mp ef;obtain⟨kvs,e2,bI⟩:=aA.mp tM;obtain⟨dk,e3,LW⟩:=aA.mp bI;obtain⟨O,e4,I⟩:=aA.mp LW;split at I
  .rename_i hl;cases I;have S:=Ci e2;refine⟨G,ρ,d,st.bs.gh,st.er,e1,λv Y H1 t1 r1=>?_⟩;obtain⟨a1,ws,q1,q2,q3,q4⟩:=(st.step t1).er.dic i kvs S;refine⟨_,q1,Y,ρ,dk,t1.s,st.er.step t1,e3,λv2 Z H2 t2 r2=>?_⟩;have SC:=(st.step t1).step t2;obtain⟨a2,RS,w1,w2,w3,U⟩:=SC.er.dic i kvs S;rw[q1]at w1;cases w1;have ek:=QR e4 r2;subst ek;have j:RS.length<sizeLine:=DA (by rw[<- U.length];show hl) 02;show⟨a1,_,rfl,fQ.k (k:=O) w3 j,k σ Z _ (SC.mut S rfl rfl q1 (λys z=>by cases z) λys z=>by cases z;show⟨_,rfl,U.put<|Rep.mono t2.g _ _ r1⟩)⟩
  .cases I
end
def zRT(n:Nat)(p:iF)(F:aC):aC:=λρ=>bP p F n ρ
section
variable {X:Cx}{e a b:Expr}{es:List Expr}{f g:dC}{fl:dD}{p:iF}{pos:Pos}{o:Expr}{apos JB pos':Pos}{x:Str}
def W6(i j:Nat):aC:=λρ=>(gL ρ j).bind λxs=>(xs[xs.length-1]?).map λd=>.nx<|(ρ.set j<|.l xs.dropLast).set i<|.v d
theorem zVn(i j:Nat)(ho:PE X o (RG j))(hN:X.N.Nodup)(hi:X.N[i]?>x)(hx:Loc X.env.scope x)
  (Z:bM X o "pop":=by rfl) (iE:ZP apos JB:=by rfl)
  (hs:PK X (.Call (.Attribute o "pop" apos) [] [] JB) (some<|.Name x pos') pos:=by rfl)
  (hf:SN X x:=by first|show .inl rfl|show .inr rfl|assumption) :
  SS X (.Assign [.Name x pos'] (.Call (.Attribute o "pop" apos) [] [] JB) pos) (W6 i j):=
 yg (aT hN hi hx (zVM XB pH rH zVN ho Z iE) hs hf) λE σ H=>by
  rintro⟨G0,H0,G,ρ,o,st,I,k⟩;obtain⟨xs,U,I⟩:=aA.mp I;obtain⟨d,Y,rfl⟩:=cA.mp I;have O:=Cf U;obtain⟨a1,vs,q1,q2,S,J⟩:=st.er.own j xs O;obtain⟨v,e3,r⟩:=J.get Y;rw[J.length]at e3;refine⟨_,q1,.inl ⟨rfl,vs,MF.of S⟩,a1,vs,v,rfl,rfl,S,e3,?_⟩;show k _ G _ ((st.mut O rfl rfl q1 (λys z=>by cases z;show⟨_,rfl,J.dropLast⟩) λ_ z=>by cases z).setV r)
def X6(i:Nat)(fl:dD):aC:=λρ=>(gL ρ i).bind λxs=>(fl ρ).bind λys=>if xs.length+ys.length<=1000000 then some (.nx<|ρ.set i<|.l<|xs++ys) else none
theorem zIj(i:Nat)(ho:PE X o (RG i))(ha:SF X a fl)
  (fE:bM X o "extend":=by rfl)
  (O:SQ X JB [a]:=by rfl)
  (iE:ZP apos JB:=by rfl) (hs:oG X a []:=by rfl) (U:WH X JB []:=by rfl)
  (S:PK X (.Call (.Attribute o "extend" apos) [a] [] JB) none pos:=by rfl) :
  SS X (.Expr (.Call (.Attribute o "extend" apos) [a] [] JB) pos) (X6 i fl):=
 yg (WS (IQ XB PySem.F.slot_list_extend PySem.F.type_list_extend zMy ho (yA ha yk hs) fE O iE hs U) S) λE σ H=>by
  rintro⟨G0,H0,G,ρ,o,st,j,k⟩;obtain⟨xs,Y,j⟩:=aA.mp j;obtain⟨ys,Z,j⟩:=aA.mp j;split at j
  .rename_i hl;cases j;have I:=Cf Y;obtain⟨a1,vs,q1,q2,q3,q4⟩:=st.er.own i xs I;refine⟨_,q1,.inl ⟨rfl,vs,MF.of q3⟩,G,ρ,ys,st.bs.gh,st.er,Z,λb us G' H' t h1 h2 h3 r=>?_⟩;have SC:=st.step t;obtain⟨a2,sO,w1,w2,w3,J⟩:=SC.er.own i xs I;rw[q1]at w1;cases w1;refine⟨a1,b,sO,us,rfl,rfl,w3,h3,?_,k σ G' _<|SC.mut I rfl rfl q1 (λzs z=>by cases z;show⟨_,rfl,J.append r⟩) λ_ z=>by cases z⟩;rw[<- J.length,<- r.length];show vA hl 02
  .cases j
end
section
variable {prog:Program}{w:World}{A:Around}{E:vD}{s:Shared}
theorem zGX{vs:List Value}{P:Fin->Shared->Prop}(I:s.heap.get? a>seqObj "list" vs.toArray n)(z:uQ vs ss)(S:vs.length<64)(h:∀(out:Array Value)(j:List Str),uQ out.toList j->j.Perm ss->sortedS j=true->P (.done<|.ret .none) { s with heap:=JW s.heap a vs out }):
  wpAny (model prog w) A (Builtin.«list.sort» ⟨[.ref a],[]⟩) P E s:=by
 refine list_sort_treeK strKind_oneLt I z.keysOf (λJ O rest e=>keyKind_strs (by rw[<- e];show z)) S λSC hp hs=>?_
 obtain⟨j,h1,h2,h3⟩:=sorted_out_str z hp hs;show h _ j h1 h2 h3
theorem zJt{kvs:List (kC×Value)}{Q:vD}(lo:(d==sysModules)=false)(hh:A.handled=none)(hd:s.heap.DictAt (z9 prog w) d kvs ep)(S:kvs.length<64) (h:∀(h':Heap)(tk:Nat)(vs:List Value),(∀b o,s.heap.get? b>o->h'.get? b>o)->vs.length=kvs.length->(∀(j:Nat)(v:Value),vs[j]?>v->∃k x,kvs[j]?>(k,x)/\(z9 prog w).is k v=true) ->
   wpAny (model prog w) A.in1.in1 (Builtin.«list.sort» ⟨[.ref h'.objs.size],[]⟩) (λfin s'=>∃v,fin=.done (.ret v)/\Q (.ref h'.objs.size) s') E { s with heap:=h'.push<|seqObj "list" vs.toArray 0,toks:=tk }) :
  wpAny (model prog w) A (call (.builtin "sorted") [.ref d]) Q E s:=by
 refine AL kind_sorted plain_sorted entry_sorted (args_sorted1 _) ?_;unfold Builtin.«sorted»;refine wpAny_bind (m:=checkCount "sorted" 1 1 _)<|wpAny_pure ?_;refine wpAny_bind (PySem.W.kdu_collect (A:=A.in1) (PySem.W.kdl_dict lo) hh hd (by rw[sizeLine_eq];omega) λh' tk acc hk J=>?_);have I:acc.toList.length=kvs.length:=by rw[xF];show J.1
 refine wpAny_bind (wpAny_newList ?_ (by rw[I,sizeLine_eq];omega));have O:=h h' tk acc.toList hk I (λj v e=>J.2 j v (by rw[<- GH];show e));refine wpAny_bind (wpAny_holding<|wpAny_call_entry slot_list_sort ⟨_,KA _ rfl,rfl⟩ Dc (wpAny_mono O (λfin s' x=>?_) λ_ _ e=>e)<|args_list_sort _);obtain⟨v,rfl,q⟩:=x;show⟨_,rfl,wpAny_pure ⟨_,rfl,q⟩⟩
end
noncomputable def gP:kC->D
 |.inl i=>.int i
 |.inr x=>.str x
def Cj(kvs:List (kC×D)):List D:=kvs.map λq=>gP q.1
theorem zKs:∀{xs:List V}{us:List Value},xs.length=us.length->(∀(j:Nat)(u:Value),us[j]?>u->∃x,xs[j]?>x/\yj x u)->yK xs us
 | [],[],_,_=>.nil
 |x::xs,u::us,hl,h=>by
  obtain⟨y,e,r⟩:=h 0 u rfl;simp at e;subst e
  show .cons r (zKs ‹hl› λj z e=>by simpa using h (j+1) z ‹e›)
 | [],_::_,hl,_=>by simp at hl
 |_::_,[],hl,_=>by simp at hl
theorem zSz(h:TV k v=true):yj (kV k) v:=by
 rcases yS h with⟨i,t,rfl,rfl⟩|⟨x,t,rfl,rfl⟩
 .show⟨t,rfl⟩
 .show⟨t,rfl⟩
noncomputable def toV:D->V
 |.int i=>.int i
 |.str x=>.str x
 |_=>.non
theorem zVp(k:kC):kV k=toV (gP k):=by cases k<;>rfl
theorem zS0{α:Type}(kvs:List (kC×α)):(kvs.map λq=>kV q.1)=(kvs.map λq=>gP q.1).map toV:=by
 rw[JA];show nB λq _=>zVp q.1
theorem zRU{α:Type}:∀{kvs:List (α×V)}{vs:List (α×Value)}{j:Nat}{k:α}{x:Value},KV kvs vs->vs[j]?>(k,x)->∃y,kvs[j]?>(k,y)
 |_,_,j,k,x,.nil,e=>by simp at e
 |(k0,y0)::_,(k1,u0)::_,0,k,x,.cons h t,e=>by
  simp at e;have h1:k0=k1:=h.1
  show⟨y0,by simp[h1,e.1]⟩
 |_::_,_::_,j+1,k,x,.cons h t,e=>by simpa using zRU (j:=j) t ‹e›
section
variable {X:Cx}
theorem kj(VD:X.calm=true):BK X (.builtin "sorted") (λxs H Q=>∃a kvs ys,xs=[.ref a]/\H a>.dK kvs/\JQ (.lst<|kvs.map λq=>gP q.1)>ys/\∀l us,H l=none->(∀K G,HA K G ys us)->Q (.ref l) (upd H l<|.lst us)):=by
 intro pins s σ H xs us Q I r h;obtain⟨a,kvs,ys,rfl,hH,e,k⟩:=h;obtain⟨u,rfl,ru⟩:=GN r;cases ru;obtain⟨hz,lo,vs,kv,dd⟩:=Sv I.hok hH;obtain⟨ep,da⟩:=dd.dictAt;dsimp[JQ,aW,dA]at e;split at e
 .rename_i hl;rw[iA]at hl;have l1:vs.length=kvs.length:=kv.length.symm;refine zJt (kvs:=vs) lo (I.ok.hd VD) da 01 λh' tk its keep hlen O=>?_
  have I1:Inv X pins σ H { s with heap:=h',toks:=tk }:=I.kept (t':=tk) keep;have hn:H h'.objs.size=none:=I1.hok.fresh<|rA _
  have S:yK (kvs.map λq=>kV q.1) its:=zKs (by rw[iA];omega) λj u eu=>by
   obtain⟨kk,xx,z,Z⟩:=O j u eu;obtain⟨y,e3⟩:=zRU kv z;refine⟨kV kk,by rw[CA,e3];rfl,zSz ?_⟩;show Z
  rw[zS0]at S
  have fin:∀{out:Array Value}{kH:List V},yK kH out.toList->(∀K G,HA K G ys kH)->kH.length<=sizeLine->EP X pins σ Q (.ref h'.objs.size) { s with heap:=JW (h'.push<|seqObj "list" its.toArray 0) h'.objs.size its out,toks:=tk }:=λ{out kH} h1 h2 h3=>by
   obtain⟨e',he⟩:=sortedHeap_at (h:=h'.push<|seqObj "list" its.toArray 0) (a:=h'.objs.size) (vs:=its) (n:=0) (out:=out)<|KA _ rfl;refine⟨.ref h'.objs.size,upd H h'.objs.size<|.lst kH,I1.laid (t':=tk) (λb ob eb=>?_) (rA _) ⟨h3,out.toList,e',h1,?_⟩,rfl,k _ _ hn h2⟩
   .have blt:=GA eb;rw[sortedHeap_old (OA blt)<|DA blt (by rw[OE];show AC _)];show oA _ eb
   .rw[he]
  split at e
  .rename_i is hi;cases e;have z:=Nz hi;rw[z,JA]at S;refine wpAny_mono (list_sort_tree (P:=λfin s'=>∃v,fin=.done (.ret v)/\EP X pins σ Q (.ref h'.objs.size) s') (n:=0) (KA _ rfl) (xr (ns:=is) S) 01 λout Ij a1 a2 U=>⟨_,rfl,?_⟩) (λ_ _ x=>x) λ_ _ x=>x
   have e5:=kg _ _ (a2.trans (P4 is).symm) U<|Ou is;subst e5;refine fin (Mp a1) (λK G=>HA.ints _) ?_;have:=(P4 is).length_eq;have:=congrArg HE z;dsimp[iA]at this ⊢;show DQ 01
  .rename_i hi;obtain⟨ss,Z,rfl⟩:=cA.mp e;have z:=Y9 Z;rw[z,JA]at S;refine wpAny_mono (zGX (P:=λfin s'=>∃v,fin=.done (.ret v)/\EP X pins σ Q (.ref h'.objs.size) s') (n:=0) (KA _ rfl) (J9 (ss:=ss) S) 01 λout Ij a1 a2 U=>⟨_,rfl,?_⟩) (λ_ _ x=>x) λ_ _ x=>x
   have e5:=kh _ _ (a2.trans (Q4 ss).symm) (xw U)<|Ov ss;subst e5;refine fin (Mo a1) (λK G=>HA.strs _) ?_;have:=(Q4 ss).length_eq;have:=congrArg HE z;dsimp[iA]at this ⊢;show DQ 01
 .cases e
variable {e:Expr}{x:Str}{p1 pos:Pos}
def Sq(i:Nat):dD:=λρ=>(gM ρ i).bind λkvs=>JQ<|.lst<|Cj kvs
theorem zPw(i:Nat)(O:X.calm=true)(Z:Gl X "sorted")(hm:X.mg "sorted" = none)(ho:PE X e (RG i))
  (hs:oG X e []:=by rfl) (J:WH X pos []:=by rfl):SF X (.Call (.Name "sorted" p1) [e] [] pos) (Sq i):=
 WF (j5 (kj O) Z hm mX (yA ho yk hs) 02 02 hs J) λσ H Q=>by
  rintro⟨G,ρ,ys,s,er,Y,k⟩;obtain⟨kvs,S,U⟩:=aA.mp Y;obtain⟨a,ws,q1,q2,q3,q4⟩:=er.dic i kvs<|Ci S;refine⟨_,q1,a,ws,ys,rfl,q3,?_,λl us I r=>?_⟩
  .rw[<- U]
   have z:(ws.map λq=>gP q.1)=Cj kvs:=by
    have:=congrArg (uJ gP) q4.1;rw[JA,JA]at this;show this.symm
   rw[z]
  .show k l us G _ (zf.newH s I) I (s.free I) zL<|r _ _
end
noncomputable def X8:D->String
 |.non=>"NoneType" | .bl _=>"bool" | .int _=>"int" | .str _=>"str" | .tup _=>"tuple" | .lst _=>"list"
def Y6(T:String)(d:D):Bool:=X8 d==T || (X8 d == "bool" && T == "int")
def Cr(T:String)(d:D):Option D:=some<|.bl<|Y6 T d
noncomputable def sR(T:String):Bool:=T == "tuple" || T == "int" || T == "bool" || T == "str" || T == "list"
theorem zVs{K:Fg}{T:String}(z:sR T=true)(d:D):PySem.W.kitOne K (.type<|X8 d) (.type T)>Y6 T d:=by
 have j:T = "tuple"\/T = "int"\/T = "bool"\/T = "str"\/T = "list":=by simpa[sR,or_assoc] using z
 rcases j with rfl|rfl|rfl|rfl|rfl<;>cases d<;>first|rfl|kernel_rfl
section
variable {X:Cx}{a:Expr}{f:dC}{p1 p2 pos:Pos}
theorem zPx{T:String}(J:sR T=true):BK X (.builtin "isinstance") (λxs H Q=>∃G d x,xs=[x,.ty T]/\zh G H/\PH X.K G H d x/\Q (.bl<|Y6 T d) H):=by
 intro pins s σ H xs us Q I r h;obtain⟨G,d,x,rfl,sm,j,q⟩:=h;obtain⟨u,O,rfl,r1,r2⟩:=zVF r;cases (show O=bE T from r2);have e:=zVs (K:=X.K) J d;have fin:∀tk,EP X pins σ Q (.bool<|Y6 T d) { s with toks:=tk }:=λtk=>⟨.bl _,H,I.tok tk,rfl,q⟩
 cases d with
 |non=>have:=j.non;subst this;cases (show u=UF from r1);show pE PySem.W.kitx_none I.kIn True.intro e (λz=>nomatch z) fin
 |bl b=>have:=j.bl;subst this;cases (show u=fF b from r1);show pE PySem.W.kitx_bool I.kIn True.intro e (λz=>nomatch z) fin
 |int i=>have:=j.int;subst this;obtain⟨t,q⟩:=(show∃t,u=fI i t from r1);cases q;show pE PySem.W.kitx_int I.kIn True.intro e (λz=>nomatch z) fin
 |str i=>have:=j.str;subst this;obtain⟨t,q⟩:=(show∃t,u=PJ i t from r1);cases q;show pE PySem.W.kitx_str I.kIn True.intro e (λz=>nomatch z) fin
 |tup ys=>
  obtain⟨b,vs,rfl,sq,_⟩:=j.tup sm;cases (show u=AB b from r1);obtain⟨its,_,⟨o,h1,h2,_⟩,_⟩:=I.tuple sq
  show pE PySem.W.kitx_tuple I.kIn ⟨o,h1,h2⟩ e (λz=>nomatch z) fin
 |lst ys=>
  obtain⟨b,vs,rfl,sq,_⟩:=j.list sm;cases (show u=AB b from r1);obtain⟨its,_,⟨o,n,h1,h2,_⟩,_⟩:=I.list sq;show pE PySem.W.kitx_list I.kIn ⟨o,h1,h2⟩ e (λz=>nomatch z) fin
theorem zRV(hT:sR T=true)(hg:Gl X "isinstance")(hm:X.mg "isinstance" = none)(O:Gl X y)(S:X.mg y=none)(I:LB y>.type T)(ha:SR X a f)(U:y ≠ "__name__":=by decide)(J:BM y:=by decide)(hs:oG X a [.Name y p2]:=by rfl)(oO:oG X (.Name y p2) []:=by rfl)(Z:WH X pos [.Name y p2]:=by rfl):SE X (.Call (.Name "isinstance" p1) [a,.Name y p2] [] pos) (b1 f<|Cr T):=
 WF (j5 (zPx hT) hg hm zIi (yA ha (yA (zSD (v:=.ty T) O S I rfl U J) yk oO) hs) 02 02 hs Z) λσ H Q=>by
  rintro⟨G,ρ,d,s,er,z,k⟩;obtain⟨d1,e1,z⟩:=aA.mp z;cases z;show⟨G,ρ,d1,s,er,e1,λv1 Y H1 t1 r1=>⟨Y,d1,v1,rfl,t1.s,r1,k _ Y H1 t1<|yc.mpr rfl⟩⟩
end
noncomputable def PV:List D->Option (List Bool)
 | []=>some []
 |.bl b::r=>(PV r).map (b :: ·)
 |_=>none
def MY:D->Option D
 |.lst xs=>(PV xs).map λbs=>.bl<|bs.all id
 |_=>none
def NY:D->Option D
 |.lst xs=>(PV xs).map λbs=>.bl<|bs.any id
 |_=>none
theorem zGx:∀{xs:List D}{bs:List Bool},PV xs>bs->xs=bs.map .bl
 | [],bs,h=>by cases h;rfl
 |d::r,bs,h=>by
  cases d with
  |bl b=>
   obtain⟨j,e,rfl⟩:=cA.mp h
   rw[eA,<- zGx e]
  |_=>cases h
theorem zGy{K:Fg}{G:Hp}:∀{bs:List Bool}{vs:List V},HA K G (bs.map .bl) vs->vs=bs.map V.bl
 | [],vs,h=>yB.mp h
 |b::bs,vs,h=>by
  obtain⟨v,r,rfl,h1,h2⟩:=zV.mp h;rw[yc.mp h1,zGy h2];rfl
theorem zGz:∀{bs:List Bool}{us:List Value},yK (bs.map V.bl) us->us=bs.map fF
 | [],us,r=>by cases r;rfl
 |b::bs,us,r=>by
  cases r with
  |cons r1 r2=>cases (show _=fF b from r1);rw[zGz r2];rfl
theorem zNU(bs:List Bool):(uA bs.length).all (λi=>bs.getD i false)=bs.all id:=by
 rw[AF];dsimp[dE,wB];constructor
 .intro h b hb;obtain⟨i,hi,rfl⟩:=iD.mp hb;simpa[uI,hi] using h i hi
 .intro h i hi;have:=h bs[i] (AD hi);simpa[uI,hi] using this
theorem zNV(bs:List Bool):(uA bs.length).any (λi=>bs.getD i false)=bs.any id:=by
 rw[AF];dsimp[eE,wB];constructor
 .rintro⟨i,hi,h⟩;show⟨bs[i],AD hi,by simpa[uI,hi] using h⟩
 .rintro⟨b,hb,h⟩;obtain⟨i,hi,rfl⟩:=iD.mp hb;show⟨i,hi,by simpa[uI,hi] using h⟩
section
variable {X:Cx}
theorem wq{pins:rE}{xs:List D}{bs:List Bool}{u:Value}{A:Around}{E:vD}{Q:Bool->Value->Shared->Prop}(Z:A.handled=none)(I:Inv X pins σ H s)(sm:zh G H)(r1:PH X.K G H (.lst xs) v)(ru:yj v u)(e:PV xs>bs)(R:List Bool->Bool)(tr:Nat->Bool)(z:tr=λi=>bs.getD i false)(h:∀(J:Addr)(fp U:List Addr)(n:Nat)(P:Nat->Value->Prop)(St:Nat->Heap->Prop)(h2:Heap),n=bs.length->Walks X.prog X.w A J fp U n P St->St 0 h2->TruthOf X.prog X.w A P tr->(∀h' tk,(∀b o,b∉U->h2.get? b>o->h'.get? b>o)->Inv X pins σ H { s with heap:=h',toks:=tk })->Q true (.ref J) { s with heap:=h2 }):
  wpAny (model X.prog X.w) A (pyIter u) (Q true) E s:=by
 have e1:=zGx e;subst e1;obtain⟨a,vs,rfl,q,w⟩:=r1.list sm;cases ru;obtain⟨its,vv,p,hz⟩:=I.list q;have hv:=zGy w;subst hv;have hu:=zGz vv;subst hu;have j:=p.isList;have Y:a<s.heap.objs.size:=by obtain⟨_,e,_⟩:=j;show GA e
 refine vY j ?_;refine h s.heap.objs.size _ _ _ _ _ _ ?_ (Walks.list Z s.heap.objs.size a (OA Y) (bs.map fF).toArray) ⟨⟨_,KA _ rfl,rfl,rfl⟩,j.push _⟩ ?_ ?_
 .simp
 .intro i v s' Q' E' hP hQ
  have:∃b,bs[i]?>b/\v=.bool b:=by
   have O:(bs.map fF)[i]?>v:=by simpa only[ON] using hP
   rw[CA]at O;obtain⟨b,h1,h2⟩:=cA.mp O;show⟨b,h1,h2.symm⟩
  obtain⟨b,hb,rfl⟩:=this;rw[z]at hQ;dsimp[uI,hb,GG]at hQ;show wpAny_truthy_bool hQ
 .intro h' tk hk;refine I.kept (t':=tk) λb o S=>hk b o ?_ (oA _ S)
  intro hm;have:=GA S;rw[jA.mp hm]at this;show GC _ this
theorem zNW(z:X.calm=true):BK X (.builtin "all") (cR X.K MY):=by
 intro pins s σ H xs us Q I r h;obtain⟨G,d1,d,x,rfl,sm,r1,e,k⟩:=h;obtain⟨u,rfl,U⟩:=GN r
 cases d1 with
 |lst zs=>
  obtain⟨bs,J,rfl⟩:=cA.mp e;refine call_all_walk ?_;refine wq (Q:=λ_=>_) (A:=X.A.in1) (I.ok.hd z) I sm r1 U J (λ_=>true) _ rfl λj fp Y n P St h2 O W st S hk=>?_
  refine⟨j,fp,Y,n,P,St,_,rfl,W,st,S,λh' tk hh=>?_⟩;subst O;rw[zNU]
  show⟨.bl _,H,hk h' tk hh,rfl,k _ G H (zf.refl sm)<|yc.mpr rfl⟩
 |_=>cases e
theorem zNX(z:X.calm=true):BK X (.builtin "any") (cR X.K NY):=by
 intro pins s σ H xs us Q I r h;obtain⟨G,d1,d,x,rfl,sm,r1,e,k⟩:=h;obtain⟨u,rfl,U⟩:=GN r
 cases d1 with
 |lst zs=>
  obtain⟨bs,J,rfl⟩:=cA.mp e;refine call_any_walk ?_;refine wq (Q:=λ_=>_) (A:=X.A.in1) (I.ok.hd z) I sm r1 U J (λ_=>true) _ rfl λj fp Y n P St h2 O W st S hk=>?_
  refine⟨j,fp,Y,n,P,St,_,rfl,W,st,S,λh' tk hh=>?_⟩;subst O;rw[zNV]
  show⟨.bl _,H,hk h' tk hh,rfl,k _ G H (zf.refl sm)<|yc.mpr rfl⟩
 |_=>cases e
variable {x:Str}{pos:Pos}
end
section
variable {X:Cx}{tg e:Expr}{f:dC}
end
section
variable {X:Cx}
end
theorem HOk.on{h h':Heap}(x:L2.HOk P w H h)(k:∀b u o,H b>o->h.get? b>u->h'.get? b>u):L2.HOk P w H h':=λa o e=>
 (x a o e).stay (λb u hb q=>by
  rcases hb with rfl|hb
  .show k _ u _ e q
  .show k b u _ hb q) (λ_ q=>q) λ_ _ q=>q
theorem vx{h:Heap}(x:BJ P w H h a o):∃u,h.get? a>u:=by
 cases o with
 |lst xs=>obtain⟨_,_,_,_,e⟩:=x;show⟨_,e⟩
 |tup xs=>obtain⟨_,_,_,ob,e,_⟩:=x;show⟨_,e⟩
 |dK kvs=>obtain⟨_,_,_,_,ob,_,_,e,_⟩:=x;show⟨_,e⟩
 |dT kvs=>obtain⟨_,_,_,_,ob,_,_,e,_⟩:=x;show⟨_,e⟩
 |set S n=>obtain⟨ob,_,_,_,e,_⟩:=x;show⟨_,e⟩
 |ins C dx fs=>obtain⟨_,_,_,e,_⟩:=x;show⟨_,e⟩
 |own y=>show x
 |xd fs=>obtain⟨_,⟨_,_,_,e,_⟩,_⟩:=x;show⟨_,e⟩
 |rng lo hi=>obtain⟨_,_,_,e⟩:=x;show⟨_,e⟩
 |frz ob u=>show⟨_,x.1⟩
 |tbl ps=>show⟨_,(show h.get? a>{ cls:=.none,data:=.fields ps } from x)⟩
 |met f y=>show⟨_,(show h.get? a>(aG (.ref f)<|.ref y) from x)⟩
 |ext j=>show x.2.1
def wY(l:List Env)(x T:Addr)(cls:Value)(h:Heap):Prop:=∃a0,wH (PB h (x::T::BH l)) l x cls a0 h
theorem zVt{B h:Heap}(f:wH B l x cls a0 h):∃T,wY l x T cls h/\B.get? T=none/\T≠x/\(∃o ts,h.get? T>o/\o.data=.fields ts):=by
 obtain⟨f1,f2,O,Z,vs,T,J,ts,g1,g2,g3,S,U,j,z,I,Y⟩:=f;refine⟨T,⟨a0,λb o e=>LF _ e,aD _ (by simp),?_,Z,vs,T,J,ts,g1,g2,g3,S,aD _ (by simp),j,z,I,Y⟩,U,j,J,ts,z,I⟩;show ZG O λenv he a ha=>bA _<|bA _<|kB.mpr ⟨env,he,ha⟩
def GK(P:Program)(w:World):wQ:=λouter H s E e s'=>∃x T C H',e=.ref x/\s'.os=s.os/\wG s'.gens/\L2.Un (BH outer) [] H H' s.heap s'.heap/\L2.HOk P w H' s'.heap/\wY outer x T (.ref C) s'.heap /\
 s.heap.get? x=none/\s.heap.get? T=none/\H' x=none/\H' T=none/\E (.ref C) none H'
section
variable {P:Program}{w:World}{K:Fg}{mg:gF}{base:Heap}{N:List Str}{qual:Str}{scope:EF}{f:Addr}{cd:Value}{A:Around}{outer:List Env}{s₀:Shared}{H₀:Hp}{E:XK}
abbrev YD(P:Program)(w:World)(K:Fg)(mg:gF)(base:Heap)(N:List Str)(qual:Str)(scope:EF)(f:Addr)(cd:Value)(A:Around)(outer:List Env)(s₀:Shared)(H₀:Hp)(E:XK):Cx:=QL (GK P w) P w K mg base N qual scope f cd A outer s₀ H₀ E
theorem zNY{s:Shared}{h':Heap}(I:Inv (YD P w K mg base N qual scope f cd A outer s₀ H₀ E) pins σ H s)(hb:∀b∈j,b∈BH (envOfC qual scope s₀.heap.objs.size f cd::outer)\/(s₀.heap.get? b=none/\H b=none))(Y:wH (PB s.heap j) outer x (.ref C) a0 h')(x2:∀b∈BH outer,∀o,s.heap.get? b>o->(∀vs,o.data≠.fields vs)->∃sl,h'.get? b>{ o with slots:=sl })(Hq:s₀.heap.get? x=none)(rZ:H x=none)(hE:E (.ref C) none H):
  GK P w outer H₀ s₀ E (.ref x) { s with heap:=h' }:=by
 obtain⟨T,fl,t1,t2,oT,ts,t3,t4⟩:=zVt Y
 have hL:s₀.heap.get? s₀.heap.objs.size=none:=by
  cases q:s₀.heap.get? s₀.heap.objs.size with
  |none=>rfl
  |some o=>show absurd (GA q)<|GC _
 -- a thing of the entry's heap that is j is a caller's frame
 have eR:∀b o,s₀.heap.get? b>o->b∈j->b∈BH outer:=λb o e m=>by
  rcases hb b m with q|⟨q,_⟩
  .rcases kB.mp q with⟨env,he,hf⟩
   rcases lA.mp he with rfl|he
   .have z:s₀.heap.objs.size=b:=DB hf;rw[<- z,hL]at e;cases e
   .show kB.mpr ⟨env,he,hf⟩
  .rw[q]at e;cases e
 have stay:∀b o,s.heap.get? b>o->b∉j->h'.get? b>o:=λb o e nb=>Y.1 b o<|pD _ e nb
 have Z:∀b,b∈BH outer->∃o,s.heap.get? b>o/\∀vs,o.data≠.fields vs:=λb m=>by
  obtain⟨_,o,ho,hd⟩:=I.stack.mem (kB.mpr (by
   obtain⟨env,he,hf⟩:=kB.mp m;show⟨env,bA _ he,hf⟩))
  show⟨o,ho,hd⟩
 have vV:∀b o,H b>o->b∉j:=λb o e m=>by
  rcases hb b m with q|⟨_,q⟩
  .have:=I.stkFree b q;rw[this]at e;cases e
  .rw[q]at e;cases e
 have U:s₀.heap.get? T=none:=by
  cases q:s₀.heap.get? T with
  |none=>rfl
  |some o=>
   exfalso;obtain⟨o',q'⟩:=I.base.there T o q (by change T∉([]:List Addr);simp);by_cases m:T∈j
   .obtain⟨_,ob,g1,g2⟩:=Y.2.2.1.mem<|eR T o q m;rw[t3]at g1;cases g1;show g2 _ t4
   .rw[pD _ q' m]at t1;cases t1
 have S:H T=none:=by
  cases q:H T with
  |none=>rfl
  |some o=>
   exfalso;obtain⟨u,hu⟩:=vx<|I.hok T o q;rw[pD _ hu<|vV T o q]at t1;cases t1
 refine⟨x,T,C,H,rfl,I.os,I.bare,⟨λb o e n nf _=>?_,λb o e n m _=>?_,λb o e n nx=>I.base.free b o e n nx,λb o e _=>?_,I.base.tups,I.base.frzs,I.base.tbls⟩,?_,fl,Hq,U,rZ,S,hE⟩
 .show stay b o (I.base.keep b o e n nf (by change b∉([]:List Addr);simp)) λm=>nf<|eR b o e m
 .obtain⟨sl,J⟩:=I.base.slot b o e n m (by change b∉([]:List Addr);simp);obtain⟨ob,O,hd⟩:=Z b m;rw[J]at O;cases O;obtain⟨cX,e3⟩:=x2 b m _ J hd;show⟨cX,e3⟩
 .obtain⟨o',J⟩:=I.base.there b o e (by change b∉([]:List Addr);simp);by_cases m:b∈j
  .obtain⟨ob,O,hd⟩:=Z b<|eR b o e m;rw[J]at O;cases O;obtain⟨cX,e3⟩:=x2 b (eR b o e m) _ J hd;show⟨_,e3⟩
  .show⟨o',stay b o' J m⟩
 .show HOk.on I.hok λb u o e q=>stay b u q<|vV b o e
theorem zRW{s:Shared}(I:Inv (YD P w K mg base N qual scope f cd A outer s₀ H₀ E) pins σ H s)(hb:∀b∈j,b∈BH (envOfC qual scope s₀.heap.objs.size f cd::outer)\/(s₀.heap.get? b=none/\H b=none))(S:wH (PB s.heap j) outer x (.ref C) a0 h')(U:s.heap.UpToSlots h')(z:s₀.heap.get? x=none)(O:H x=none)(J:E (.ref C) none H):
  GK P w outer H₀ s₀ E (.ref x) { s with heap:=h' }:=
 zNY I hb S (λb _=>U b) z O J
theorem zNZ:vO (GK P w) (YD P w K mg base N qual scope f cd A outer s₀ H₀ E) E:=by
 intro pins σ H s e s' I h;obtain⟨x,T,C,H',rfl,os,bare,un,hok,⟨a0,fl⟩,nx,nT,hx,O,z⟩:=h;have J:Inv (YD P w K mg base N qual scope f cd A outer s₀ H₀ E) pins σ H' s':=I.call' os un hok bare λb m=>absurd m (by simp)
 have j:∀b,s.heap.get? b=none->s₀.heap.get? b=none:=λb n=>by
  cases q:s₀.heap.get? b with
  |none=>rfl
  |some o=>
   obtain⟨o',q'⟩:=I.base.there b o q (by change b∉([]:List Addr);simp);rw[n]at q';cases q'
 change wpAny (model P w) (A.deeper<|envOfC qual scope s₀.heap.objs.size f cd) (leaving (envOfC qual scope s₀.heap.objs.size f cd)<|.ref x) _ _ s';refine wpAny_leaves_onW (J.ok.frames) (L:=s₀.heap.objs.size) rfl fl λh' S U=>?_
 refine zRW J (λb m=>?_) S U (j x nx) hx z;rcases lA.mp m with rfl|m
 .show .inr ⟨j _ nx,hx⟩
 rcases lA.mp m with rfl|m
 .show .inr ⟨j _ nT,O⟩
 .show .inl m
theorem zS2{s:Shared}(I:Inv (YD P w K mg base N qual scope f cd A outer s₀ H₀ E) pins σ H s)(m:Heap.MadeExcOf s.heap h' x (.ref C) args)(O:E (.ref C) none H):(YD P w K mg base N qual scope f cd A outer s₀ H₀ E).xe (.ref x) { s with heap:=h' }:=by
 change wpAny (model P w) (A.deeper<|envOfC qual scope s₀.heap.objs.size f cd) (leaving (envOfC qual scope s₀.heap.objs.size f cd)<|.ref x) _ _ _;have J:∀env∈(envOfC qual scope s₀.heap.objs.size f cd::outer),∀a,env.frame>a->a∈BH (envOfC qual scope s₀.heap.objs.size f cd::outer):=λenv he a ha=>kB.mpr ⟨env,he,ha⟩
 have st:s.heap.FunFrames (PB s.heap<|BH (envOfC qual scope s₀.heap.objs.size f cd::outer)) (envOfC qual scope s₀.heap.objs.size f cd::outer):=ZG I.stack J;refine wpAny_leaves_madeW (s:={ s with heap:=h' }) (I.ok.frames) (L:=s₀.heap.objs.size) rfl (λb o e=>LF _ e) st m λDS t Y _ _ Z=>?_
 have j:s₀.heap.get? x=none:=by
  cases q:s₀.heap.get? x with
  |none=>rfl
  |some o=>
   obtain⟨o',q'⟩:=I.base.there x o q (by change x∉([]:List Addr);simp);rw[m.new]at q';cases q'
 have U:H x=none:=by
  cases q:H x with
  |none=>rfl
  |some o=>
   obtain⟨u,z⟩:=vx<|I.hok x o q;rw[m.new]at z;cases z
 show zRW (s:=s) I (λb S=>.inl S) Y ((iY m.keeps).trans Z) j U O
end
noncomputable abbrev Wg:List Value:=[.type "ValueError",.type "Exception",.type "BaseException",.type "object"]
def bW(K:Fg)(C:Addr):Prop:=ZK K C Wg "ValueError.__new__" = true
theorem zNa{K:Fg}(q:bW K C):∃bm N nm J bs hdct sn sub ab col dd k0 k1 k2 k3 k5 oN,
  K.lookup C>excClassObj nm J C N bs bm hdct sn sub ab col dd k0 k1 k2 k3 k5 "ValueError.__new__"/\K.lookup N>oN/\(∀h,K.In h->h.isNs N=true/\h.nsMap N "__init__" = none/\OwnTail h Wg bm):=by
 have q':=q;unfold bW ZK at q';split at q'
 .next dd cd sl ho=>
  split at q'
  .next C' bm k0 k1 k2 k3 n k5 hm hs=>
   rw[NB,NB,NB,NB,NB]at q';obtain⟨⟨⟨⟨⟨U,Y⟩,e3⟩,Z⟩,j⟩,e6⟩:=q';have gI:C'=C:=‹U›
   have mO:n = "ValueError.__new__":=‹Y›
   have O:UI K cd.ns "__init__" = some none:=‹e6›
   subst gI mO
   cases cd with
   |mk nm bs mro ns J hd sn sub ab col I=>
    simp only at hm e3 j O;have S:I=false:=‹e3›
    subst hm S
    cases sl with
    |mk l=>
     simp only at hs;subst hs;have z:=j;unfold PySem.W.nsOkIn at z;split at z
     .next hN=>show⟨bm,ns,nm,J,bs,hd,sn,sub,ab,col,dd,k0,k1,k2,k3,k5,_,ho,hN,λh X=>⟨PySem.W.isNs_of_in X j,PySem.W.nsMap_none_of_in X j O,PySem.W.tail_of_in X Z⟩⟩
     .cases z
  .cases q'
 .cases q'
section
variable {P:Program}{w:World}{K:Fg}{mg:gF}{base:Heap}{N:List Str}{qual:Str}{scope:EF}{f:Addr}{cd:Value}{A:Around}{outer:List Env}{s₀:Shared}{H₀:Hp}{E:XK}
theorem zPy(hC:bW K C)(hg:Gl (YD P w K mg base N qual scope f cd A outer s₀ H₀ E) x)(hm:mg x>.ref C)(ha:PA (YD P w K mg base N qual scope f cd A outer s₀ H₀ E) [e] t)(hd:BM x:=by decide)(he:starEach [e] (YD P w K mg base N qual scope f cd A outer s₀ H₀ E).env=(false,eval e (YD P w K mg base N qual scope f cd A outer s₀ H₀ E).env)::starEach [] (YD P w K mg base N qual scope f cd A outer s₀ H₀ E).env:=by rfl)(Y:(backTo JB<|starEach [] (YD P w K mg base N qual scope f cd A outer s₀ H₀ E).env).any (·.1)=false:=by rfl):
  PS (YD P w K mg base N qual scope f cd A outer s₀ H₀ E) (.Raise (some<|.Call (.Name x np) [e] [] JB) none pos) (λ_ σ H=>t σ H λvs H1=>vs.length<=sizeLine/\E (.ref C) none H1):=by
 intro pins s σ H D I h;obtain⟨bm,O,nm,qn,bs,hdct,sn,sub,ab,col,dd,k0,k1,k2,k3,k5,oN,o1,J,z⟩:=zNa hC;obtain⟨o2,o3,o4⟩:=z _ I.kIn;have j:bm.contains (.type "BaseException")=true:=o4.hasType 02;have S:=PySem.F.excBase_ValueError;refine wpAny_Raise_call_subU (C:=C) (nm:=nm) (q:=qn) (N:=O) (bs:=bs) (bm:=bm) (hdct:=hdct) (sn:=sn) (sub:=sub) (ab:=ab) (col:=col) (dd:=dd) (k0:=k0) (k1:=k1) (k2:=k2) (k3:=k3) (k5:=k5) (mN:=s.heap.nsMap O) S 02 S j (I.ok.hd rfl) (by rw[he];change(false || (backTo JB<|starEach [] _).any (·.1))=false;rw[Y];rfl) o3 ?_;refine Ax I hg hm ⟨rfl,?_⟩ hd;have U:=ha JB pins s σ H _ I h;rw[he]at U ⊢;refine YH ?_;refine UC U λus s2 zz=>?_
 obtain⟨vs,H1,I1,rv,hl,Z⟩:=zz;show⟨rfl,by change us.length<=_;rw[<- rv.length];show hl,I1.kIn _ _ o1,(Heap.Ns.of_isNs o2).at' (λo e=>by rw[I.kIn _ _ J]at e;cases e;show I1.kIn _ _ J),(z _ I1.kIn).2.2,λh' x m=>zS2 I1 m Z⟩
end
inductive fG where
 |o (x:Out)|ex (c:Nat)
def HY(K:Fg)(κ:Nat->Addr)(W:XK)(G0 H0:Hp)(E:RQ):fG->Prop
 |.o x=>aY K G0 H0 E x
 |.ex c=>∀G H,Bs G0 H0 G H->W (.ref<|κ c) none H
def Zq(K:Fg)(κ:Nat->Addr)(W:XK)(F:lB->Option fG):TS:=λE σ H=>∃G0 H0 G ρ o,jD K G0 H0 G H ρ σ/\F ρ>o/\HY K κ W G0 H0 E o
abbrev SX(X:Cx)(κ:Nat->Addr)(W:XK)(s:Stmt)(F:lB->Option fG):Prop:=PS X s<|Zq X.K κ W F
abbrev sP(X:Cx)(κ:Nat->Addr)(W:XK)(s:List Stmt)(F:lB->Option fG):Prop:=aM X s<|Zq X.K κ W F
section
variable {X:Cx}{κ:Nat->Addr}{W:XK}{e a b:Expr}{es:List Expr}{f g:dC}{fl:dD}{p:iF}{pos:Pos}{F F':lB->Option fG}{F0:aC}{st:Stmt}{rest:List Stmt}
noncomputable def oX(F:aC):lB->Option fG:=λρ=>(F ρ).map .o
theorem tT(h:SS X st F0):SX X κ W st (oX F0):=yg h λQ σ H=>by
 rintro⟨G0,H0,G,ρ,o,st,z,k⟩;obtain⟨x,j,rfl⟩:=cA.mp z;show⟨G0,H0,G,ρ,x,st,j,k⟩
theorem xX(h:QJ X rest F0):sP X κ W rest (oX F0):=i6 h λQ σ H=>by
 rintro⟨G0,H0,G,ρ,o,st,z,k⟩;obtain⟨x,j,rfl⟩:=cA.mp z;show⟨G0,H0,G,ρ,x,st,j,k⟩
noncomputable def jH(F F':lB->Option fG):lB->Option fG:=λρ=>(F ρ).bind λo=>match o with
 |.o (.nx ρ')=>F' ρ'
 |o=>some o
theorem qy(h1:SX X κ W st F)(h2:sP X κ W rest F'):sP X κ W (st::rest) (jH F F'):=i6 (zKY h1 h2) λQ σ H=>by
 rintro⟨G0,H0,G,ρ,o,st,J,k⟩;obtain⟨z,I,j⟩:=aA.mp J;refine⟨G0,H0,G,ρ,z,st,I,?_⟩
 cases z with
 |o x=>
  cases x with
  |nx ρ'=>showλO G' H' SC=>⟨G0,H0,G',ρ',o,SC,j,k⟩
  |rt d=>cases j;show k
  |ro d=>cases j;show k
  |rm d ρ=>cases j;show k
  |bk d=>cases j;show k
  |ct d=>cases j;show k
 |ex c=>cases j;show k
theorem Rm(h1:SX X κ W st F):sP X κ W [st] F:=zMh h1
noncomputable def FT(c:iF)(F F':lB->Option fG):lB->Option fG:=λρ=>(c ρ).bind λb=>if b=true then F ρ else F' ρ
theorem zVu(hc:SB X c p)(ha:sP X κ W A F)(hb:sP X κ W B F'):SX X κ W (.If c A B pos) (FT p F F'):=yg (zU1 hc ha hb) λQ σ H=>by
 rintro⟨G0,H0,G,ρ,o,st,I,k⟩;obtain⟨d,z,j⟩:=aA.mp I;refine⟨G,ρ,d,st.bs.gh,st.er,z,λG' H' t=>?_⟩
 cases d with
 |true=>rw[if_pos rfl]at j ⊢;show⟨G0,H0,G',ρ,o,st.step t,j,k⟩
 |false=>rw[if_neg cB]at j ⊢;show⟨G0,H0,G',ρ,o,st.step t,j,k⟩
noncomputable def lZ(g:D->lB->Option lB)(F:lB->Option fG):List D->lB->Option fG
 | [],ρ=>some<|.o<|.nx ρ
 |d::ds,ρ=>(g d ρ).bind λρ1=>(F ρ1).bind λo=>match o with
  |.o (.nx ρ')=>lZ g F ds ρ'
  |.o (.ct ρ')=>lZ g F ds ρ'
  |.o (.bk ρ')=>some<|.o<|.nx ρ'
  |.o (.rt d)=>some<|.o<|.rt d
  |.o (.ro s)=>some<|.o<|.ro s
  |.o (.rm d ρ)=>some<|.o<|.rm d ρ
  |.ex c=>some<|.ex c
noncomputable def XN(c:iF)(F:lB->Option fG):Nat->lB->Option fG
 |0,_=>none
 |n+1,ρ=>(c ρ).bind λb=>if b=true then (F ρ).bind λo=>match o with
   |.o (.nx ρ')=>XN c F n ρ'
   |.o (.ct ρ')=>XN c F n ρ'
   |.o (.bk ρ')=>some<|.o<|.nx ρ'
   |.o (.rt d)=>some<|.o<|.rt d
   |.o (.ro s)=>some<|.o<|.ro s
   |.o (.rm d ρ)=>some<|.o<|.rm d ρ
   |.ex c=>some<|.ex c
  else some (.o<|.nx ρ)
def R5(n:Nat)(p:iF)(F:lB->Option fG):lB->Option fG:=λρ=>XN p F n ρ
theorem zPz(n:Nat)(hp:PassesOwn (model X.prog X.w) X.A X.env X.xe)(hc:SB X c p)(hb:sP X κ W body F):SX X κ W (.While c body [] pos) (R5 n p F):=
 yg (zKZ hp hc hb) λE σ H=>by
  rintro⟨G0,H0,G,ρ,o,st,ef,k⟩;refine⟨λm I H'=>∃G' ρ',jD X.K G0 H0 G' H' ρ' I/\XN p F m ρ'>o,⟨n,G,ρ,st,ef⟩,?_⟩;rintro m rW H2 ⟨G2,U,xI,Y⟩
  cases m with
  |zero=>cases Y
  |succ m=>
   obtain⟨b,e1,z⟩:=aA.mp Y;refine⟨G2,U,b,xI.bs.gh,xI.er,e1,λS H3 t3=>?_⟩
   cases b with
   |false=>
    rw[if_neg cB]at z ⊢;cases z
    show k rW S H3<|xI.step t3
   |true=>
    rw[if_pos rfl]at z ⊢;obtain⟨Z,e5,j⟩:=aA.mp z;refine⟨λI H'=>∃G' ρ',jD X.K G0 H0 G' H' ρ' I/\XN p F m ρ'>o,λI H' h=>⟨m,mH _,h⟩,G0,H0,S,U,Z,xI.step t3,e5,?_⟩
    cases Z with
    |o x3=>
     cases x3 with
     |nx ρ'=>showλlM J H5 O=>⟨J,ρ',O,j⟩
     |ct ρ'=>showλlM J H5 O=>⟨J,ρ',O,j⟩
     |bk ρ'=>cases j;show k
     |rt d=>cases j;show k
     |ro d=>cases j;show k
     |rm d ρ=>cases j;show k
    |ex c=>cases j;show k
end
def Jj(K:Fg)(κ:Nat->Addr)(f:List D->Option (Except Nat D))(n:Nat):Sp:=λvs H Q E=>∃G ds r,zh G H/\HA K G ds vs/\ds.length=n/\f ds>r/\match r with
 |.ok d=>∀v G' H',zf G H G' H'->Rep K G' d v->Q v H'
 |.error c=>∀G' H',zf G H G' H'->E (.ref<|κ c) none H'
noncomputable def cW(N:List Str)(F:lB->Option fG)(ds:List D):Option (Except Nat D):=(F<|ds.map Sl.v++pA (N.length-ds.length) .un).bind λo=>match o with
 |.o (.rt d)=>some<|.ok d
 |.o (.nx _)=>some<|.ok .non
 |.ex c=>some<|.error c
 |_=>none
section
variable {P:Program}{w:World}{K:Fg}{mg:gF}{base:Heap}{κ:Nat->Addr}
theorem zRY{x qual:Str}{st:Stmt}{fa:Addr}{fd:FuncData}{N ps:List Str}{k:Nat}{F:lB->Option fG}{f:List D->Option (Except Nat D)}
  (J:nN K x qual st fa fd) (S:zU N ps (zI st))
  (Z:∀(z:Value)(A:Around)(outer:List Env)(s:Shared)(H:Hp)(E:XK),IF k (A.deeper<|envOfC qual (zI st) s.heap.objs.size fa z)->sP (YD P w K mg base N qual (zI st) fa z A outer s H E) κ E (yF st) F)
  (hf:∀ds r,ds.length=ps.length->f ds>r->cW N F ds>r):KI P w K mg base (GK P w) (k+1) fa fd ps (Jj K κ f ps.length):=by
 obtain⟨oc,od,kV,O,pm,an,z,ct,RP,rfl,lk,uM⟩:=J.ex;refine Cb lk uM S (λvs H Q E h=>?_) λA outer s H vs Q E hr h=>?_
 .obtain⟨G,ds,d,_,r,I,_⟩:=h;rw[<- r.length,I]
 .obtain⟨G,ds,r,sm,rp,I,Y,kk⟩:=h;refine⟨_,Z z A outer s H E hr,?_⟩;obtain⟨o,U,j⟩:=aA.mp<|hf ds r I Y;have er:=Ot (N:=N) (H:=H) rp;refine⟨G,H,G,_,o,⟨er,⟨sm,zh.refl _,zh.refl _,λb o e n=>by rw[e]at n;cases n⟩,λi u a h1 h2 h3=>?_⟩,U,?_⟩
  .exfalso;by_cases hi:i<ds.length
   .rw[XA ‹hi›,CA]at h1
    cases q:ds[i]? with
    |none=>rw[q]at h1;cases h1
    |some d=>rw[q]at h1;cases h1;cases h2
   .rw[mB ‹hi›,HB]at h1;split at h1<;>cases h1;cases h2
  .cases o with
   |o x=>
    cases x with
    |rt d'=>
     cases j
     showλv G' H' b r'=>kk v G' H' ⟨b.gg,b.hh,b.gh,b.fr⟩ r'
    |nx ρ=>
     cases j
     showλuC G' H' SC=>kk .non G' H' ⟨SC.bs.gg,SC.bs.hh,SC.bs.gh,SC.bs.fr⟩<|bQ.mpr rfl
    |bk ρ=>cases j
    |ct ρ=>cases j
    |ro ρ=>cases j
    |rm d ρ=>cases j
   |ex c=>
    cases j
    showλG' H' b=>kk G' H' ⟨b.gg,b.hh,b.gh,b.fr⟩
end
structure dW(P:Program)(w:World)(K:Fg)(mg:gF)(base:Heap)(κ:Nat->Addr)(k:Nat)(x:Str)(n:Nat)(F:List D->Option (Except Nat D)):Prop where
 ex:∃f fd ps,KI P w K mg base (GK P w) k f fd ps (Jj K κ F n)/\mg x>.ref f/\pB K (.ref f)=true/\L2.OL K fd ps []
section
variable {X:Cx}{κ:Nat->Addr}{W:XK}{e:Expr}{es:List Expr}{fl:dD}{pos p JB:Pos}{x y:Str}{k n:Nat}{f:List D->Option (Except Nat D)}
def QS(K:Fg)(κ:Nat->Addr)(W:XK)(g:lB->Option (Except Nat D)):TE:=λσ H Q=>∃G ρ r,zh G H/\Er K G H ρ σ/\g ρ>r/\match r with
 |.ok d=>∀v G' H',zf G H G' H'->Rep K G' d v->Q v H'
 |.error c=>∀G' H',zf G H G' H'->W (.ref<|κ c) none H'
theorem Qj(h:dW X.prog X.w X.K X.mg X.base κ k x n f)(Y:vO (GK X.prog X.w) X W)(hr:IF k X.A)(Z:X.env.kindOf x>.globalImplicit)(hn:(e::es).length=n)(ha:SA X (e::es) fl)(O:BM x:=by decide)
  (he:oG X e es:=by rfl) (z:WH X pos es:=by rfl) :
  PE X (.Call (.Name x p) (e::es) [] pos) (QS X.K κ W λρ=>(fl ρ).bind f):=by
 obtain⟨fa,fd,ps,I,hm,hk,hb⟩:=h.ex;refine WF (Ay (E:=W) I hr Z hm hk hb .nil Y ha.pa O he z) λσ H Q zz=>?_
 obtain⟨G,ρ,r,s,er,U,k⟩:=zz;obtain⟨xs,j,S⟩:=aA.mp U;refine⟨G,ρ,xs,s,er,j,λvs J H1 t1 r1=>?_⟩;change Jj X.K κ f n (vs++[]) H1 Q W;rw[oB];refine⟨J,xs,r,t1.s,r1,by rw[ha.len _ _ j,hn],S,?_⟩
 cases r with
 |ok d=>showλv G' H' t r=>k v G' H' (t1.trans t) r
 |error c=>showλG' H' t=>k G' H'<|t1.trans t
noncomputable def Ro(g:lB->Option (Except Nat D)):lB->Option fG:=λρ=>(g ρ).map λr=>match r with
 |.ok _=>.o<|.nx ρ
 |.error c=>.ex c
theorem zS6{g:lB->Option (Except Nat D)}(h:PE X e (QS X.K κ W g))(hs:PK X e none pos:=by rfl):SX X κ W (.Expr e pos) (Ro g):=
 yg (WS h hs) λE σ H=>by
  rintro⟨G0,H0,G,ρ,o,st,z,k⟩;obtain⟨r,j,rfl⟩:=cA.mp z;refine⟨G,ρ,r,st.bs.gh,st.er,j,?_⟩
  cases r with
  |ok d=>showλv G' H' t r=>k σ G' H'<|st.step t
  |error c=>showλG' H' t=>k G' H'<|st.bs.step t
noncomputable def Bv(i:Nat)(g:lB->Option (Except Nat D)):lB->Option fG:=λρ=>(g ρ).map λr=>match r with
 |.ok d=>.o<|.nx<|ρ.set i<|.v d
 |.error c=>.ex c
theorem zVv(i:Nat){g:lB->Option (Except Nat D)}(h:PE X e (QS X.K κ W g))(I:X.N.Nodup)(hi:X.N[i]?>y)(hx:Loc X.env.scope y)(hs:PK X e (some<|.Name y pos') pos:=by rfl)(hf:SN X y:=by first|show .inl rfl|show .inr rfl|assumption):SX X κ W (.Assign [.Name y pos'] e pos) (Bv i g):=
 yg (aT I hi hx h hs hf) λE σ H=>by
  rintro⟨G0,H0,G,ρ,o,st,z,k⟩;obtain⟨r,j,rfl⟩:=cA.mp z;refine⟨G,ρ,r,st.bs.gh,st.er,j,?_⟩
  cases r with
  |ok d=>showλv G' H' t r=>k _ G' H'<|(st.step t).setV r
  |error c=>showλG' H' t=>k G' H'<|st.bs.step t
end
section
variable {P:Program}{w:World}{K:Fg}{mg:gF}{base:Heap}{N:List Str}{qual:Str}{scope:EF}{fa:Addr}{cd:Value}{A:Around}{outer:List Env}{s₀:Shared}{H₀:Hp}{E:XK}{κ:Nat->Addr}
noncomputable def cT(c:Nat)(fl:dD):lB->Option fG:=λρ=>(fl ρ).map λ_=>.ex c
theorem zKt(c:Nat){fl:dD}(hC:bW K (κ c))(O:Gl (YD P w K mg base N qual scope fa cd A outer s₀ H₀ E) x)(hm:mg x>(.ref<|κ c))(ha:SA (YD P w K mg base N qual scope fa cd A outer s₀ H₀ E) [e] fl)(hd:BM x:=by decide)(he:starEach [e] (YD P w K mg base N qual scope fa cd A outer s₀ H₀ E).env=(false,eval e (YD P w K mg base N qual scope fa cd A outer s₀ H₀ E).env)::starEach [] (YD P w K mg base N qual scope fa cd A outer s₀ H₀ E).env:=by rfl)(z:(backTo JB<|starEach [] (YD P w K mg base N qual scope fa cd A outer s₀ H₀ E).env).any (·.1)=false:=by rfl):
  SX (YD P w K mg base N qual scope fa cd A outer s₀ H₀ E) κ E (.Raise (some<|.Call (.Name x np) [e] [] JB) none pos) (cT c fl):=
 yg (zPy hC O hm ha.pa hd he z) λQ σ H=>by
  rintro⟨G0,H0,G,ρ,o,st,J,k⟩;obtain⟨xs,j,rfl⟩:=cA.mp J;refine⟨G,ρ,xs,st.bs.gh,st.er,j,λvs I H1 t1 r1=>⟨?_,k I H1<|st.bs.step t1⟩⟩;rw[<- r1.length,ha.len _ _ j];show DQ (by simp)
end
section
variable {X:Cx}{e:Expr}{f:dC}{pos p1 p2 p3:Pos}{j1 j3}
noncomputable def BS(a b:Str):D->Option D
 |.int i=>if 0<=i/\i<1000000/\(DI++a++((toString i:String):Str)++b).length<=1000000 then some (.str<|DI++a++((toString i:String):Str)++b) else none
 |_=>none
theorem zNd{i:Int}(h0:0<=i)(h1:i<1000000):i.natAbs.log2<1920:=by
 by_cases z:i.natAbs=0
 .rw[z];decide
 .have h2:i.natAbs<2 ^ 20:=01
  have h3:=(Nat.log2_lt z).mpr h2;omega
theorem app_len(a b:Str):(a++b).length=a.length+b.length:=by
 change(YL a b).length=_;simp[YL,uD]
theorem zNe(ha:SR X e f):SE X (.JoinedStr [.Constant (.str a) j1 p1,.FormattedValue e (-1) none p2,.Constant (.str b) j3 p3] pos) (b1 f<|BS a b):=by
 intro pins s σ H Q I h;obtain⟨G,ρ,d,sm,er,z,k⟩:=h;obtain⟨d1,J,z⟩:=aA.mp z
 cases d1 with
 |int i=>
  dsimp[BS]at z;split at z
  .rename_i hc;obtain⟨h0,h1,h2⟩:=hc;cases z;rw[app_len,app_len,app_len]at h2;refine JoinedStr_many (joinParts_cons<|RI ⟨by rw[app_len,sizeLine_eq];omega,?_⟩);refine joinParts_cons (FormattedValue_plain<|UC (ha pins _ σ H (λv H'=>∃G',zf G H G' H'/\PH X.K G' H' (.int i) v) (I.tok _) ⟨G,ρ,_,sm,er,J,λv G' H' t r=>⟨G',t,r⟩⟩) λv s2 zz=>?_);obtain⟨x,H1,I1,O,G',t1,r1⟩:=zz;have hx:=r1.int;subst hx;obtain⟨tk,rfl⟩:=(show∃t,v=fI i t from O)
   refine formatField_int_small (zNd h0 h1) ⟨by rw[app_len,app_len,sizeLine_eq];omega,?_⟩;refine joinParts_cons (RI ⟨by rw[app_len,app_len,app_len,sizeLine_eq];omega,joinParts_nil ?_ (by rw[app_len,app_len,app_len,sizeLine_eq];omega)⟩);show⟨.str _,H1,I1.tok _,⟨_,rfl⟩,k _ G' H1 t1<|qu.mpr rfl⟩
  .cases z
 |_=>cases z
end
structure WV(X:Cx)(pins:rE)(H:Hp)(x:Addr):Prop where
 h0:X.s₀.heap.get? x=none
 hH:H x=none
 hL:x≠X.env.locals
 hC:∀y c,X.env.cells.lookup y>c->c≠x
 hp:∀p∈X.pn++pins,p.1≠x
section
variable {X:Cx}{pins:rE}{σ:L2.St}{H H':Hp}{s s':Shared}
theorem zVw(I:Inv X pins σ H s)(J:X.ex=[])(n:s.heap.get? x=none)(hH:H' x=none):WV X pins H' x:=by
 refine⟨?_,hH,λz=>?_,λy c e z=>?_,λp hp z=>?_⟩
 .cases q:X.s₀.heap.get? x with
  |none=>rfl
  |some o=>
   obtain⟨o',q'⟩:=I.base.there x o q (by rw[J];simp);rw[n]at q';cases q'
 .obtain⟨m,⟨o,_,_,j,_⟩,_⟩:=I.loc;rw[z,j]at n;cases n
 .obtain⟨v,o,j,_⟩:=I.cell y c e;rw[z,n]at j;cases j
 .have:=(I.pin p hp).1;rw[z,n]at this;cases this
theorem zNf(I:Inv X pins σ H s)(nx:WV X pins H x)(nT:WV X pins H T)(st:jN (PB s.heap (x::T::BH X.stack)) h')(up:s.heap.UpToSlots h'):Inv X pins σ H { s with heap:=h' }:=by
 have keep:∀b o,s.heap.get? b>o->b≠x->b≠T->b∉BH X.stack->h'.get? b>o:=λb o e n1 S Y=>st b o (pD _ e<|by simp[n1,S,Y])
 have fr:∀b o,s.heap.get? b>o->b∈BH X.stack->∃O,h'.get? b>{ o with slots:=O }:=λb o e m=>by
  obtain⟨_,ob,U,hd⟩:=I.stack.mem m;rw[e]at U;cases U;show up b o e hd
 have any:∀b o,s.heap.get? b>o->b≠x->b≠T->∃O,h'.get? b>{ o with slots:=O }:=λb o e n1 S=>by
  by_cases m:b∈BH X.stack
  .show fr b o e m
  .show⟨o.slots,keep b o e n1 S m⟩
 refine I.stepN (g':=s.gens) (t':=s.toks) (d':=s.drawn) (ch:=[x,T]) (λb hb=>?_) (λb o hL Z J e n=>?_) (λb o _ _ J e n=>?_) (λb o _ e n=>n) (λb o J e=>?_) (λ_ _ e=>e) (λ_ _ _ e=>e) (λb ps e=>⟨#[],by rw[e];simp⟩) (λm hm=>?_) ?_ I.bare
 .have:b=x\/b=T:=‹hb›
  rcases this with rfl|rfl
  .show⟨.inr nx.h0,nx.hL,nx.hC,nx.hp⟩
  .show⟨.inr nT.h0,nT.hL,nT.hC,nT.hp⟩
 .have j:b≠x/\b≠T:=‹J›
  show keep b o e j.1 j.2 λz=>(lA.mp<|I.stkSub b z).elim hL Z
 .have j:b≠x/\b≠T:=‹J›
  show any b o e j.1 j.2
 .have j:b≠x/\b≠T:=‹J›
  obtain⟨O,q⟩:=any b o e j.1 j.2;show⟨_,q⟩
 .show up.ns hm
 .refine HOk.on I.hok λb u o e q=>?_
  refine keep b u q (λz=>?_) (λz=>?_) λz=>?_
  .rw[z,nx.hH]at e;cases e
  .rw[z,nT.hH]at e;cases e
  .rw[I.stkFree b z]at e;cases e
end
section
variable {X:Cx}{κ:Nat->Addr}{e:Expr}{es:List Expr}{fl:dD}{pos p:Pos}{x:Str}{k n:Nat}{f:List D->Option (Except Nat D)}
end
noncomputable abbrev BZ(X:Cx)(y:Addr):Cx:={ X with A:=X.A.mark<|some<|.ref y,calm:=false }
theorem zRZ(I:Inv X pins σ H s)(y:Addr):Inv (BZ X y) pins σ H s:=
 ⟨⟨I.ok.mod,I.ok.kind,I.ok.glob,I.ok.blt,I.ok.above,I.ok.inj,I.ok.has,I.ok.cab,λz=>(by cases z),I.ok.frames,I.ok.stk,I.ok.exf,I.ok.bs,I.ok.bsz,I.ok.noex,I.ok.exfs,I.ok.funs,I.ok.frf⟩,I.os,I.bare,I.base,I.loc,I.cell,I.free,I.freeC,I.pin,I.hok,I.len⟩
theorem Ai{X:Cx}(ok:X.Ok)(I:Inv (BZ X y) pins σ H s):Inv X pins σ H s:=
 ⟨ok,I.os,I.bare,I.base,I.loc,I.cell,I.free,I.freeC,I.pin,I.hok,I.len⟩
theorem zS7{X:Cx}{pins:rE}{D:RQ}{f:Flow}{s:Shared}{y:Addr}(ok:X.Ok)(h:SP (BZ X y) pins D f s):SP X pins D f s:=by
 cases f with
 |next=>obtain⟨j,H',I,q⟩:=h;show⟨j,H',Ai ok I,q⟩
 |brk=>obtain⟨j,H',I,q⟩:=h;show⟨j,H',Ai ok I,q⟩
 |cont=>obtain⟨j,H',I,q⟩:=h;show⟨j,H',Ai ok I,q⟩
 |ret u=>obtain⟨v,j,H',I,r,q⟩:=h;show⟨v,j,H',Ai ok I,r,q⟩
section
variable {X:Cx}{C:Addr}{xc:Str}{np HP:Pos}{lO:Stmt}{pL:List Stmt}{rest:List ExceptHandler}{th:TS}
theorem zVx(hC:bW X.K C)(hg:Gl X xc)(hm:X.mg xc>.ref C)(U:X.stack=X.env::X.outer)(KZ:X.env.frame>X.env.locals){pins:rE}{σ:L2.St}{H:Hp}{s:Shared}{y T:Addr}(I:Inv X pins σ H s)(fl:wY X.stack y T (.ref C) s.heap)(ny:WV X pins H y)(nT:WV X pins H T)
  (hb:aM (BZ X y).nox (lO::pL) th) {D:RQ} (ht:th D σ H) {E:vD} (hd:BM xc:=by decide) :
  wpAny (model X.prog X.w) X.A (noteFrame (.ref y) X.env) (λ_ nI=>wpAny (model X.prog X.w) X.A (setFlight (.ref y) none) (λ_ NA=>
   wpAny (model X.prog X.w) X.A (handleBy (.ref y) X.env (.ExceptHandler (some<|.Name xc np) none (lO::pL) HP::rest)) (SP X pins D) E NA) E nI) E s:=by
 obtain⟨a0,fl⟩:=fl;have Wn:=fl;rw[U]at fl;have mZ:=I.ok.frames;rw[U]at mZ;have Zp:∀h',jN (PB s.heap (y::T::BH (X.env::X.outer))) h'->jN (PB s.heap (y::T::BH X.stack)) h':=λh' z=>by rw[U];show z
 refine Dd mZ KZ fl λh4 HZ Y8=>?_
 refine wpAny_landsW (s:={ s with heap:=h4 }) HZ λh5 j Zu=>?_
 have J:Inv X pins σ H { s with heap:=h5 }:=zNf I ny nT (Zp _ j.1)<|Y8.trans Zu;obtain⟨ob,S,Hi⟩:=j.there;refine wpAny_handleBy_cons (codeAny_handlers_test ?_) (by intro q;cases q);refine Ax (zRZ J y) hg hm ?_ hd;obtain⟨bm,Nn,nm,qn,bs,hdct,sn,sub,ab,col,dd,k0,k1,k2,k3,k5,oN,o1,Il,AR⟩:=zNa hC;have o4:=(AR _ J.kIn).2.2;refine wpAny_excMatches_sub_self (J.kIn _ _ o1) S Hi (o4.hasType<|02)<|codeAny_handlers_suite ?_;refine lands_againW (s:={ s with heap:=h5 }) j λh6 O Z=>?_
 have I6:Inv X pins σ H { s with heap:=h6 }:=zNf I ny nT (Zp _ O.1)<|(Y8.trans Zu).trans Z;show wpAny_mono (hb pins _ σ H D ((zRZ I6 y).wish _) ht) (λfw s2 q=>zS7 I.ok<|SP.unwish q) λ_ _ z=>False.elim z
end
section
variable {X:Cx}{κ:Nat->Addr}{e:Expr}{es:List Expr}{fl:dD}{pos p JB uU np HP:Pos}{x xc y:Str}{k n:Nat}{f:List D->Option (Except Nat D)}{lO:Stmt}{pL:List Stmt}{Fh:aC}
end
noncomputable def dP(ρ:lB)(i:Nat):Option Ob:=match ρ[i]? with
 |some (.o _ x)=>some x
 |some (.b _ x)=>some x
 |_=>none
noncomputable def YN(C:Addr)(f:Str):Ob->Option Fl
 |.ins C' fs=>if C'=C then fs.lookup f else none
 |_=>none
def bN(C:Addr)(i:Nat)(f:Str)(ρ:lB):Option Fl:=(dP ρ i).bind<|YN C f
noncomputable def AU:Fl->Option D
 |.v d=>some d
 |_=>none
noncomputable def OW:Fl->Option D
 |.v d=>some d
 |.f (.l xs)=>some<|.lst xs
 |_=>none
theorem L9{α:Type}{f:Str}{x:α}:∀{fs:List (Str×α)},fs.lookup f>x->(f,x)∈fs
 | [],h=>by cases h
 |(g,y)::fs,h=>by
  rw[YA]at h;split at h
  .rename_i e;have:=eq_of_beq e;subst this;cases h;show gA ..
  .show bA _<|L9 h
structure At(K:Fg)(G H:Hp)(x:Ob)(a:Addr):Prop where
 rep:gQ K G H x a
 nd:(YE H x a).Nodup
 fr:∀c∈YE H x a,G c=none
section
variable {K:Fg}{G H G' H':Hp}{ρ:lB}{σ:L2.St}{i:Nat}{x:Ob}{a C:Addr}{f:Str}{fl:Fl}
theorem nX(e:Er K G H ρ σ)(h:dP ρ i>x):∃a,σ[i]?>(some<|.ref a)/\At K G H x a:=by
 unfold dP at h;split at h
 .rename_i c y q;cases h;obtain⟨a,h1,h2,h3⟩:=e.slot i _ q rfl;show⟨a,h1,h2.1.1,h2.1.2,h3⟩
 .rename_i c y q;cases h;obtain⟨a,h1,h2,h3⟩:=e.slot i _ q rfl;show⟨a,h1,h2.1.1,h2.1.2,h3⟩
 .cases h
theorem At.step(h:At K G H x a)(t:zf G H G' H'):At K G' H' x a:=by
 have q:=h.rep.same t.g λc m u z=>t.h _ _ z
 refine⟨q.1,by rw[q.2];show h.nd,λc m=>?_⟩;rw[q.2]at m;obtain⟨u,e⟩:=h.rep.there c m
 cases z:G' c with
 |none=>rfl
 |some o=>have:=t.f c o z<|h.fr c m;rw[e]at this;cases this
theorem At.fld(h:At K G H x a)(e:YN C f x>fl):∃dx ws u,H a>.ins C dx ws/\ws.lookup f>u/\fP K G H fl u/\∀c∈iI H fl u,G c=none:=by
 cases x with
 |p y=>cases e
 |ins I fs=>
  dsimp[YN]at e;split at e
  .rename_i z;subst z;obtain⟨dx,ws,h1,h2,h3,J⟩:=h.rep;obtain⟨u,q1,j⟩:=h3 _<|L9 e;refine⟨dx,ws,u,h1,q1,j,λc m=>h.fr c ?_⟩;dsimp[YE];rw[h1];show bA _<|bA _<|tX (L9 e) q1 m
  .cases e
end
section
variable {X:Cx}{o:Expr}{pos:Pos}{C:Addr}{f:Str}{i:Nat}
theorem Rp(i:Nat)(c:xJ X.K C)(n:qR X.K C f)(U:PE X o (RG i))(hb:bM X o f:=by rfl):SR X (.Attribute o f pos) (λρ=>(bN C i f ρ).bind OW):=
 WF (NV U hb) λσ H Q=>by
  rintro⟨G,ρ,d,s,er,S,k⟩;obtain⟨fl,J,j⟩:=aA.mp S;obtain⟨x,e3,O⟩:=aA.mp J;obtain⟨a,q1,A⟩:=nX er e3;obtain⟨dx,ws,u,w1,Y,I,Z⟩:=A.fld O;refine⟨_,q1,a,C,dx,ws,u,rfl,w1,c,n,Y,k u G H (zf.refl s) ?_⟩
  cases fl with
  |v d'=>cases j;show .fr I
  |f y=>
   cases y with
   |l xs=>
    cases j;obtain⟨b,rfl,vs,z1,z2⟩:=I
    show .ow (Z b<|jA.mpr rfl) z1 z2
   |_=>cases j
theorem zVy(i:Nat)(c:xJ X.K C)(n:qR X.K C f)(O:PE X o (RG i))(hb:bM X o f:=by rfl):SE X (.Attribute o f pos) (λρ=>(bN C i f ρ).bind AU):=
 WF (NV O hb) λσ H Q=>by
  rintro⟨G,ρ,d,s,er,J,k⟩;obtain⟨fl,z,j⟩:=aA.mp J;obtain⟨x,e3,I⟩:=aA.mp z;obtain⟨a,q1,A⟩:=nX er e3;obtain⟨dx,ws,u,w1,S,U,Y⟩:=A.fld I;refine⟨_,q1,a,C,dx,ws,u,rfl,w1,c,n,S,k u G H (zf.refl s) ?_⟩
  cases fl with
  |v d'=>cases j;show U
  |f y=>cases j
end
def Jg(K:Fg)(f:Ob->List D->Option D)(n:Nat):Sp:=λvs H Q _=>∃G x a ds ws d,vs=.ref a::ws/\zh G H/\At K G H x a/\HA K G ds ws/\ds.length+1=n/\f x ds>d/\∀v G' H',zf G H G' H'->Rep K G' d v->Q v H'
noncomputable def GT(N:List Str)(F:aC)(a:Addr)(x:Ob)(ds:List D):Option D:=(F<|(.b a x::ds.map Sl.v)++pA (N.length-(ds.length+1)) .un).bind λo=>match o with
 |.rt d=>some d
 |.nx _=>some .non
 |_=>none
theorem Ba{K:Fg}{G H:Hp}{w:Sl}{a:Addr}{ds:List D}{vs:List V}(J:w.isObj=true)(hr:bO K G H w a)(hf:∀c∈JE H w a,G c=none)(r:HA K G ds vs):Er K G H (w::ds.map Sl.v) ((V.ref a::vs).map some):=by
 have low:∀{i:Nat}{s:Sl},(w::ds.map Sl.v)[i]?>s->s.isObj=true->i=0/\s=w:=λ{i s} h o=>by
  cases i with
  |zero=>simp at h;show⟨rfl,h.symm⟩
  |succ i=>
   dsimp[CB,CA]at h
   cases q:ds[i]? with
   |none=>rw[q]at h;cases h
   |some d=>rw[q]at h;cases h;cases o
 refine⟨by simp[r.length],λi d h=>?_,λi s h o=>?_,λi j s t b c ne h1 O h2 S=>?_⟩
 .cases i with
  |zero=>simp at h;subst h;cases J
  |succ i=>
   dsimp[CB,CA]at h
   cases q:ds[i]? with
   |none=>rw[q]at h;cases h
   |some d'=>
    rw[q]at h;cases h;obtain⟨v,z,I⟩:=r.get q;show⟨v,by simp[z],I⟩
 .obtain⟨rfl,rfl⟩:=low h o;show⟨a,rfl,hr,hf⟩
 .show absurd ((low h1<|Sl.obj_of_own O).1.trans (low h2 S).1.symm) ne
theorem B5{N:List Str}{vs:List V}:L2.fM N vs=vs.map some++pA (N.length-vs.length) none:=by
 unfold L2.fM;rfl
theorem Bi{P:Program}{w:World}{K:Fg}{mg:gF}{base:Heap}{x qual:Str}{st:Stmt}{fa:Addr}{fd:FuncData}{N ps:List Str}{k:Nat}{F:aC}{f:Ob->List D->Option D}
  (U:nN K x qual st fa fd) (S:zU N ps (zI st))
  (gE:∀(I:Value)(A:Around)(outer:List Env)(s:Shared)(H:Hp),IF k (A.deeper<|envOfC qual (zI st) s.heap.objs.size fa I)->QJ (QL EI P w K mg base N qual (zI st) fa I A outer s H E0).nox (yF st) F)
  (hf:∀a y ds d,ds.length+1=ps.length->f y ds>d->GT N F a y ds>d):KI P w K mg base EI (k+1) fa fd ps (Jg K f ps.length):=by
 refine U.ok S (λvs H Q E h=>?_) (λI A outer s H vs Q E hr h=>?_)
 .obtain⟨G,y,a,ds,ws,d,rfl,_,_,r,O,_⟩:=h;rw[kA,<- r.length,O]
 .obtain⟨G,y,a,ds,ws,d,rfl,sm,J,r,O,ef,kk⟩:=h;have h1:QJ (QL EI P w K mg base N qual (zI st) fa I A outer s H E).nox (yF st) F:=gE I A outer s H hr;refine⟨_,h1,?_⟩;obtain⟨o,Z,j⟩:=aA.mp<|hf a y ds d O ef;have vU:Er K G H (.b a y::ds.map Sl.v) ((V.ref a::ws).map some):=Ba rfl ⟨⟨J.rep,J.nd⟩,rfl⟩ J.fr r;have er:=vU.app (N.length-(ds.length+1)) (pA (N.length-(ds.length+1)) none) (by simp)
  have er:Er K G H ((.b a y::ds.map Sl.v)++pA (N.length-(ds.length+1)) .un) (L2.fM N (.ref a::ws)):=by
   rw[B5,kA,<- r.length];show er
  have Y:∀(i:Nat)(u:Sl),((.b a y::ds.map Sl.v)++pA (N.length-(ds.length+1)) Sl.un)[i]?>u->u.isOwn=true->False:=λi u h1 h2=>by
   have hm:=xA h1;rcases nA.mp hm with m|m
   .rcases lA.mp m with z|m
    .subst z;cases h2
    .obtain⟨d',_,rfl⟩:=LA.mp m;cases h2
   .rw[(FE.mp m).2]at h2;cases h2
  refine⟨G,H,G,_,o,⟨er,⟨sm,zh.refl _,zh.refl _,λb o e n=>by rw[e]at n;cases n⟩,λi u b h1 h2 h3=>(Y i u h1 h2).elim⟩,Z,?_⟩
  cases o with
  |rt d'=>
   cases j
   showλv G' H' b r'=>kk v G' H' ⟨b.gg,b.hh,b.gh,b.fr⟩ r'
  |nx ρ=>
   cases j
   showλuC G' H' SC=>kk .non G' H' ⟨SC.bs.gg,SC.bs.hh,SC.bs.gh,SC.bs.fr⟩<|bQ.mpr rfl
  |bk ρ=>cases j
  |ct ρ=>cases j
  |ro ρ=>cases j
  |rm d ρ=>cases j
structure iP(P:Program)(w:World)(K:Fg)(mg:gF)(base:Heap)(C:Addr)(k:Nat)(m:Str)(n:Nat)(F:Ob->List D->Option D):Prop where
 ex:∃f fd ps,KI P w K mg base EI k f fd ps (Jg K F n)/\fW K C m f/\L2.OL K fd ps []
noncomputable def DM(C:Addr)(m:Str):Ob->Bool
 |.ins C' fs=>decide (C'=C)&&(fs.lookup m).isNone
 |_=>false
def WJ(C:Addr)(m:Str)(i:Nat)(fl:dD)(F:Ob->List D->Option D):dC:=λρ=>(dP ρ i).bind λx=>if DM C m x=true then (fl ρ).bind λds=>F x ds else none
section
variable {X:Cx}{o e:Expr}{es:List Expr}{pos apos:Pos}{C:Addr}{m:Str}{i k n:Nat}{F:Ob->List D->Option D}{fl:dD}
theorem Bj{K:Fg}{G H:Hp}{x:Ob}{a:Addr}(h:At K G H x a)(e:DM C m x=true):∃dx ws,H a>.ins C dx ws/\ws.lookup m=none:=by
 cases x with
 |p y=>cases e
 |ins z fs=>
  dsimp[DM,NB,decide_eq_true_eq,Option.isNone_iff_eq_none]at e;obtain⟨rfl,e⟩:=e;obtain⟨dx,ws,h1,_,_,j⟩:=h.rep;show⟨dx,ws,h1,j.1 m e⟩
theorem Bb{pl:Sem Bool}(i:Nat)(h:iP X.prog X.w X.K X.mg X.base C k m n F)(c:xJ X.K C)(hr:IF k X.A)(Y:PE X o (RG i))(ha:SA X (e::es) fl)(U:(e::es).length+1=n)
  (jL:oG X e es:=by rfl) (I:WH X pos es:=by rfl)
  (Z:eval (.Call (.Attribute o m apos) (e::es) [] pos) X.env=(do
   let ov <- eval o X.env
   standAt apos.atName
   let (f,first) <- holding [ov] (getMethod ov m pl)
   callWith pos f first (backTo pos<|starEach (e::es) X.env) (backToKw pos<|keywordEach [] X.env)):=by rfl) :
  SE X (.Call (.Attribute o m apos) (e::es) [] pos) (WJ C m i fl F):=by
 obtain⟨f,fd,ps,J,hm,hb⟩:=h.ex;refine WF (Qd (pl:=pl) (dvs:=[]) (ds:=[]) (E:=E0) Y c hm J hr hb .nil QX ha.pa jL I Z) λσ H Q zz=>?_
 obtain⟨G,ρ,d,s,er,j,kk⟩:=zz;obtain⟨x,S,j⟩:=aA.mp j;split at j
 .rename_i hx;obtain⟨ds,z,e3⟩:=aA.mp j;obtain⟨a,q1,A⟩:=nX er S;obtain⟨dx,ws,q2,q3⟩:=Bj A hx;refine⟨_,q1,a,dx,ws,rfl,q2,q3,G,ρ,ds,s,er,z,λvs G' H' t r=>?_⟩;change Jg X.K F n (V.ref a::(vs++[])) H' Q E0;rw[oB];show⟨G',x,a,ds,vs,d,rfl,t.s,A.step t,r,by rw[ha.len _ _ z];show U,e3,λv O H2 t2 r2=>kk v O H2 (t.trans t2) r2⟩
 .cases j
theorem Ow{pl:Sem Bool}(i:Nat)(h:iP X.prog X.w X.K X.mg X.base C k m 1 F)(c:xJ X.K C)(hr:IF k X.A)(J:PE X o (RG i))
  (O:eval (.Call (.Attribute o m apos) [] [] pos) X.env=(do
   let ov <- eval o X.env
   standAt apos.atName
   let (f,first) <- holding [ov] (getMethod ov m pl)
   callWith pos f first (backTo pos<|starEach [] X.env) (backToKw pos<|keywordEach [] X.env)):=by rfl) :
  SE X (.Call (.Attribute o m apos) [] [] pos) (WJ C m i zN F):=by
 obtain⟨f,fd,ps,z,hm,hb⟩:=h.ex;refine WF (zPX (pl:=pl) (dvs:=[]) (ds:=[]) (E:=E0) J c hm z hr hb .nil QX O) λσ H Q zz=>?_
 obtain⟨G,ρ,d,s,er,j,kk⟩:=zz;obtain⟨x,I,j⟩:=aA.mp j;split at j
 .rename_i hx;obtain⟨a,q1,A⟩:=nX er I;obtain⟨dx,ws,S,U⟩:=Bj A hx;show⟨_,q1,a,dx,ws,rfl,S,U,G,x,a,[],[],d,rfl,s,A,HA.nil,rfl,j,kk⟩
 .cases j
end
noncomputable def qz(f:Str)(v:Fl):List (Str×Fl)->List (Str×Fl)
 | []=>[]
 |(g,y)::r=>if g==f then (g,v)::r else (g,y)::qz f v r
theorem Me:∀{fs:List (Str×Fl)},fs.lookup f>y->∃l1 l2,fs=l1++(f,y)::l2/\qz f v fs=l1++(f,v)::l2
 | [],h=>by cases h
 |(g,z)::fs,h=>by
  rw[YA]at h;by_cases e:g=f
  .subst e;rw[beq_self_eq_true]at h;cases h;show⟨[],fs,rfl,by simp[qz]⟩
  .have e':(f==g)=false:=beq_eq_false_iff_ne.mpr<|Ne.symm e;have j:(g==f)=false:=beq_eq_false_iff_ne.mpr e;rw[e']at h;obtain⟨l1,l2,h1,h2⟩:=Me (v:=v) h;show⟨(g,z)::l1,l2,by rw[h1];rfl,by dsimp[qz,j,h2];rfl⟩
theorem vz{α z:Type}:∀{fs:List (Str×α)}{j:List (Str×z)},fs.map (·.1)=j.map (·.1)->fs.lookup x=none->j.lookup x=none
 | [],[],_,_=>rfl
 | [],_::_,h,_=>by cases h
 |_::_,[],h,_=>by cases h
 |(a,p)::fs,(b,q)::j,h,e=>by
  dsimp[eA,pC]at h;obtain⟨rfl,h⟩:=h;rw[YA]at e ⊢;split at e
  .cases e
  .show vz h e
theorem zLz{α:Type}{P S j B:List α}(h:(P++(S++B)).Nodup)(O:j.Nodup)(k:∀c∈j,c∈S\/(c∉P/\c∉B)):(P++(j++B)).Nodup:=by
 rw[QB]at h ⊢;obtain⟨h1,h2,h3⟩:=h;rw[QB]at h2 ⊢;obtain⟨U,I,J⟩:=h2;refine⟨h1,⟨O,I,λa ha b hb=>?_⟩,λa ha b hb=>?_⟩
 .rcases k a ha with q|⟨_,q⟩
  .show J a q b hb
  .intro z;subst z;show q hb
 .rcases nA.mp hb with hb|hb
  .rcases k b hb with q|⟨q,_⟩
   .show h3 a ha b<|BB _ q
   .intro z;subst z;show q ha
  .show h3 a ha b<|EA _ hb
theorem Qk{ws:List (Str×V)}(e:ws.lookup f>u):wI H (l1++(f,y)::l2) ws=wI H l1 ws++(iI H y u++wI H l2 ws):=by
 unfold wI;rw[GO,dB,e]
section
variable {K:Fg}{G0 H0 G H H':Hp}{ρ:lB}{σ:L2.St}{i:Nat}{a b C dx:Addr}{c:Option Addr}{f:Str}{fs:List (Str×Fl)}{ws:List (Str×V)}{y y':Fd}
theorem At.mutF(h:At K G H (.ins C fs) a)(ha:H a>.ins C dx ws)(hl:fs.lookup f>.f y)(hw:ws.lookup f>.ref b)
  (hH:∀p u,p∉OF H y b->H p>u->H' p>u) (hr:RL K G H' y' b) (hn:(OF H' y' b).Nodup) (hf:∀p∈OF H' y' b,(p∈OF H y b\/H p=none)/\G p=none) :
  At K G H' (.ins C<|qz f (.f y') fs) a/\∀p∈YE H' (.ins C<|qz f (.f y') fs) a,p∈YE H (.ins C fs) a\/H p=none:=by
 obtain⟨l1,l2,S,U⟩:=Me (v:=.f y') hl;obtain⟨Wi,Z8,z1,z2,z3,z4⟩:=h.rep;rw[ha]at z1;cases z1;have O:=h.nd
 have I:YE H (.ins C fs) a=(a::dx::wI H l1 ws)++(OF H y b++wI H l2 ws):=by
  dsimp[YE];rw[ha];dsimp[YW];rw[S,Qk hw];rfl
 rw[I]at O;have fr:=h.fr;rw[I]at fr;have J:=h.rep.there;rw[I]at J;obtain⟨n1,n2,n3⟩:=QB.mp O;obtain⟨n4,n5,n6⟩:=QB.mp n2;have eV:∀p,p∈a::dx::wI H l1 ws->p∉OF H y b:=λp m q=>n3 p m p (BB _ q) rfl
 have Im:∀p,p∈wI H l2 ws->p∉OF H y b:=λp m q=>n6 p q p m rfl
 have stay:∀(q:Str×Fl),(q∈l1\/q∈l2)->∃u,ws.lookup q.1>u/\fP K G H' q.2 u/\iI H' q.2 u=iI H q.2 u:=λq m=>by
  obtain⟨u,r1,r2⟩:=z3 q (by rw[S];rcases m with m|m;show BB _ m;show EA _<|bA _ m);refine⟨u,r1,r2.same (zh.refl _) λp mp v zz=>hH p v ?_ zz⟩;rcases m with m|m
  .show eV p<|bA _<|bA _<|tX m r1 mp
  .show Im p<|tX m r1 mp
 have tZ:H' a>.ins C dx ws:=hH a _ (eV a<|gA ..) ha;have wN:H' dx>.own a:=hH dx _ (eV dx<|bA _<|gA ..) z2;have w1:wI H' l1 ws=wI H l1 ws:=Os λq m=>let ⟨u,r1,_,r3⟩:=stay q<|.inl m;⟨u,r1,r3⟩
 have w2:wI H' l2 ws=wI H l2 ws:=Os λq m=>let ⟨u,r1,_,r3⟩:=stay q<|.inr m;⟨u,r1,r3⟩
 have Y:YE H' (.ins C<|qz f (.f y') fs) a=(a::dx::wI H l1 ws)++(OF H' y' b++wI H l2 ws):=by
  dsimp[YE];rw[tZ];dsimp[YW];rw[U,Qk hw,w1,w2];rfl
 have j:fs.map (·.1)=(qz f (.f y') fs).map (·.1):=by rw[U,S];simp
 refine⟨⟨⟨dx,ws,tZ,wN,λq m=>?_,λx e=>z4.1 x<|vz j.symm e,by have:=congrArg HE j;dsimp[iA]at this;rw[<- this];show z4.2⟩,?_,λp m=>?_⟩,λp m=>?_⟩
 .rw[U]at m;rcases nA.mp m with m|m
  .obtain⟨u,r1,r2,_⟩:=stay q<|.inl m;show⟨u,r1,r2⟩
  .rcases lA.mp m with m|m
   .subst m;show⟨_,hw,b,rfl,hr⟩
   .obtain⟨u,r1,r2,_⟩:=stay q<|.inr m;show⟨u,r1,r2⟩
 .rw[Y];refine zLz O hn λp m=>?_
  rcases(hf p m).1 with q|q
  .show .inl q
  .refine .inr ⟨λz=>?_,λz=>?_⟩
   .obtain⟨u,e⟩:=J p<|BB _ z;rw[q]at e;cases e
   .obtain⟨u,e⟩:=J p<|EA _<|EA _ z;rw[q]at e;cases e
 .rw[Y]at m;rcases nA.mp m with m|m
  .show fr p<|BB _ m
  .rcases nA.mp m with m|m
   .show(hf p m).2
   .show fr p<|EA _<|EA _ m
 .rw[Y]at m;rw[I];rcases nA.mp m with m|m
  .show .inl<|BB _ m
  .rcases nA.mp m with m|m
   .rcases(hf p m).1 with q|q
    .show .inl<|EA _<|BB _ q
    .show .inr q
   .show .inl<|EA _<|EA _ m
theorem zS8(ha:H a>.ins C dx ws)(j:fs.lookup f>.f y)(z:ws.lookup f>.ref b):∀p∈OF H y b,p∈YE H (.ins C fs) a:=λp m=>by
 dsimp[YE];rw[ha];show bA _<|bA _<|tX (L9 j) z m
theorem jD.mutF(s:jD K G0 H0 G H ρ σ)(J:ρ[i]?>(.o c<|.ins C fs))(I:fs.lookup f>.f y)(S:σ[i]?>(some<|.ref a))(ha:H a>.ins C dx ws)(O:ws.lookup f>.ref b)
  (Y:zh G H') (hH:∀p u,p∉OF H y b->H p>u->H' p>u) (hr:RL K G H' y' b) (U:(OF H' y' b).Nodup) (hf:∀p∈OF H' y' b,(p∈OF H y b\/H p=none)/\G p=none) :
  jD K G0 H0 G H' (ρ.set i<|.o c<|.ins C<|qz f (.f y') fs) σ:=by
 obtain⟨Z,h1,h2,h3⟩:=s.er.slot i _ J rfl;rw[S]at h1;cases h1;have A:At K G H (.ins C fs) a:=⟨h2.1.1,h2.1.2,h3⟩
 obtain⟨j,sub⟩:=A.mutF ha I O hH hr U hf;show s.mutG J rfl rfl S (zh.refl _) Y (λp o e n=>by rw[n]at e;cases e) (λp o e n=>hH p o (λz=>n<|zS8 ha I O p z) e) ⟨⟨j.rep,j.nd⟩,h2.2⟩ λp m=>⟨sub p m,j.fr p m⟩
theorem jD.fldAt(s:jD K G0 H0 G H ρ σ)(J:ρ[i]?>(.o c<|.ins C fs))(j:fs.lookup f>.f y):∃a dx ws b,σ[i]?>(some<|.ref a)/\H a>.ins C dx ws/\ws.lookup f>.ref b/\RL K G H y b/\(∀p∈OF H y b,G p=none)/\(OF H y b).Nodup:=by
 obtain⟨a,h1,h2,h3⟩:=s.er.slot i _ J rfl;have A:At K G H (.ins C fs) a:=⟨h2.1.1,h2.1.2,h3⟩
 obtain⟨dx,ws,u,q1,z,⟨b,rfl,O⟩,S⟩:=A.fld (C:=C) (f:=f) (fl:=.f y)<|(if_pos rfl).trans j;refine⟨a,dx,ws,b,h1,q1,z,O,S,?_⟩;obtain⟨l1,l2,I,U⟩:=Me (v:=.f y) j;have nd:=A.nd;dsimp[YE]at nd;rw[q1]at nd;dsimp[YW]at nd;rw[I,Qk z]at nd;have nd:((a::dx::wI H l1 ws)++(OF H y b++wI H l2 ws)).Nodup:=nd;show(QB.mp (QB.mp nd).2.1).1
end
end RD
namespace PySem
theorem zCF{prog:Program}{w:World}{K:Type}[DecidableEq K]{knd:HeapKind prog w K}{A:Around}{E:vD}{s:Shared}{d a:Addr}{xs:List (K×Addr×Value)}{k:K}{v:Value}{Q:vD}(Y:knd.room A)(O:knd.is s.heap k a)(hm:s.heap.DictOfH knd d xs)
  (h1:∀p,atKey xs k>p->Q p.2 { s with toks:=s.toks+knd.draws k })
  (hQ:atKey xs k=none->∀h',h'.DictOfH knd d (storedH xs k a v)->cE d s.heap h'->Q v { s with heap:=h',toks:=s.toks+knd.draws k })
  (hsz:xs.length<=sizeLine):wpAny (model prog w) A (dictSetDefault d (.ref a) v) Q E s:=by
 obtain⟨o,es,ep,z,hc,hd,he,S,J⟩:=hm;unfold dictSetDefault
 try with_reducible refine wpAny_holding ?_
 refine wpAny_bind<|knd.pyHash Y O<|wpAny_bind<|wpAny_dictFind_heap (s:={ s with toks:=s.toks+knd.draws k }) Y O z hd he S J ?_ ?_
 .intro I;have Z:k∉xs.map (·.1):=not_mem_keys_of_get I
  refine wpAny_bind (wpAny_rule<|wpAny_bind<|wpAny_updateDictKeys (hz:=by have e:=size_of_entries he;omega) (s:={ s with toks:=s.toks+knd.draws k }) z hd<|wpAny_pure<|hQ (atKey_none_of_get I) _ ⟨_,_,ep+1,dF _ z<|Obj.isFreed_of_dict<|MO hd _,
   hc.mapDictKeys _,MO hd _,?_,?_,?_⟩<|SD ..)
  .rw[uS<|atKey_none_of_get I];simp[he,entryOfKey]
  .rw[uS<|atKey_none_of_get I];intro x hx;rcases nA.mp hx with hx|hx
   .show knd.keeps (S x hx) z hd<|SD ..
   .dsimp[jA]at hx;subst hx;show knd.keeps O z hd<|SD ..
  .rw[uS<|atKey_none_of_get I];rw[UA,QB];refine⟨J,by simp,?_⟩;intro x hx y hy;dsimp[eA,FC,jA]at hy;subst hy
   showλe=>Z<|e ▸ hx
 .intro j p U;refine wpAny_bind<|wpAny_dictEntries (s:={ s with toks:=s.toks+knd.draws k }) z hd ?_;rw[entry_at he j,U];show wpAny_bind<|wpAny_rule<|wpAny_pure<|h1 p<|atKey_of_get J U
theorem qV{prog:Program}{w:World}{K:Type}[DecidableEq K](knd:HeapKind prog w K)(d a:Addr)(hd:(d==sysModules)=false)(dflt:Value):
  MeetsIn prog w (Builtin.«dict.setdefault» ⟨[.ref d,.ref a,dflt],[]⟩) (λA R s=>knd.room A.in1/\∃k xs,knd.is s.heap k a/\s.heap.DictOfH knd d xs/\xs.length<=sizeLine /\
   (∀p,atKey xs k>p->R (.ok<|.ret p.2) { s with toks:=s.toks+knd.draws k }) /\
   (atKey xs k=none->∀h',h'.DictOfH knd d (storedH xs k a dflt)->cE d s.heap h'->R (.ok<|.ret dflt) { s with heap:=h',toks:=s.toks+knd.draws k })):=
 .of_wp λA R s=>by
  rintro⟨J,k,xs,O,hm,hz,h1,h2⟩;unfold Builtin.«dict.setdefault»;refine wpAny_bind ?_;unfold Ct;refine wpAny_bind<|wpAny_notOrdered_dict hm.typeIs ?_;change wpAny _ _ (pure (d,AB a,some dflt)) _ _ s;refine wpAny_pure ?_;change wpAny _ _ (if (d==sysModules)=true then _ else (dictSetDefault d (.ref a) dflt >>= _)) _ _ s;rw[if_neg (by rw[hd];show cB)];show wpAny_bind (zCF J O hm (λv hv=>wpAny_pure ⟨_,rfl,h1 v hv⟩) (λI h' j z=>wpAny_pure ⟨dflt,rfl,h2 I h' j z⟩) hz)
end PySem
namespace RD
open PySem PySem.Spec PyProof.Rows L2
def X1:V->List V->Hp->VK->Prop:=λx vs H Q=>∃a y z,x=.ref a/\vs=[y,z]/\((∃v,LI H a y (some v)/\((∃kvs,H a>.dK kvs)\/∃kvs,H a>.dT kvs)/\Q v H)\/(LI H a y none/\∃H',fQ H a y z H'/\Q z H'))
section
variable {X:Cx}
theorem km(hu:X.A.units+1<cLine):EY X "dict.setdefault" X1:=by
 intro pins s σ H x vs v us Q I rx rv h;obtain⟨a,y,z,rfl,rfl,h⟩:=h;cases rx;obtain⟨u,r,rfl,ru,rr⟩:=rv.two;rcases h with⟨v,g,hm,q⟩|⟨g,H',hp,q⟩
 .rcases hm with⟨JI,em⟩|⟨JI,em⟩
  .rcases g with⟨kvs,k,e,ey,l⟩|⟨kvs,k,b,e,ey,U,l⟩
   .subst ey;obtain⟨zz,hd,vs,j,dd⟩:=pT I.hok e;have hz:vs.length<=sizeLine:=by rw[<- j.length];show zz
    obtain⟨w',hw,rw'⟩:=CK.some_of (v:=v) (o:=valueAt vs k) (by rw[l];show j.val k)
    show DG jC dd.typeIs BD (tD _ _ _) (kt_meets_setdefault (z9 X.prog X.w) a (fS ru) hd r)
     ⟨vs,dd,hz,(λv' Z=>by rw[hw]at Z;cases Z;show⟨v,H,I.tok _,rw',q⟩),(λJ=>by rw[hw]at J;cases J)⟩
   .rcases e with e|⟨o,e⟩<;>(rw[em]at e;cases e)
  .rcases g with⟨kvs,k,e,ey,l⟩|⟨kvs,k,b,e,ey,U,l⟩
   .rcases e with e|⟨o,e⟩<;>(rw[em]at e;cases e)
   .subst ey;cases (show u=AB b from ru);obtain⟨zz,hd,xs,j,dd⟩:=rT I.hok e;have hz:xs.length<=sizeLine:=by rw[<- Paired.length j];show zz
    obtain⟨w',hw,rw'⟩:=CK.some_of (v:=v) (o:=(atKey xs k).map (·.2)) (by rw[l];show j.val k);obtain⟨p,hp,Hk⟩:=cA.mp hw
    show DG jC dd.typeIs BD (tD _ _ _) (qV (tupleKind<|z9 X.prog X.w) a b hd r)
     ⟨tupleKind_room_in1 hu,k,xs,XR I.hok U,dd,hz,(λp' Y=>by rw[hp]at Y;cases Y;show⟨v,H,I.tok _,by rw[Hk];show rw',q⟩),(λJ=>by rw[hp]at J;cases J)⟩
 .rcases hp with⟨kvs,k,e,ey,l,eH⟩|⟨kvs,k,b,e,ey,U,l,eH⟩
  .subst ey eH
   have hv:vG kvs k=none:=by
    rcases g with⟨JI,k',e',S,l'⟩|⟨JI,k',b',e',S,En,l'⟩
    .rcases e' with e' | ⟨o,e'⟩
     .rw[e]at e';cases e';have:k=k':=by cases k<;>cases k'<;>simp[kV]at S<;>rw[S]
      subst this;show l'.symm
     .rw[e]at e';cases e'
    .rcases e' with e' | ⟨o,e'⟩<;>(rw[e]at e';cases e')
   obtain⟨zz,hd,vs,j,dd⟩:=Sv I.hok e;have hz:vs.length<=sizeLine:=by rw[<- j.length];show zz
   have hl:(BI kvs k z).length<=sizeLine:=by have:=O4 kvs k z;omega
   have J:valueAt vs k=none:=CK.none_of (by rw[<- hv];show j.val k)
   refine DG jC dd.typeIs BD (tD _ _ _) (kt_meets_setdefault (z9 X.prog X.w) a (fS ru) hd r)
     ⟨vs,dd,hz,(λv' Z=>by rw[J]at Z;cases Z),(λ_ h' tP hs=>?_)⟩
   have he:∃q,h'.get? a>q:=let ⟨q,_,_,hq,_⟩:=tP;⟨q,hq⟩;show⟨z,_,P5 I (by rw[e];show True.intro) hs he<|zRE hl hd (j.put k rr) tP,rr,q⟩
  .subst ey eH;cases (show u=AB b from ru)
   have hv:vG kvs k=none:=by
    rcases g with⟨JI,k',e',S,l'⟩|⟨JI,k',b',e',S,En,l'⟩
    .rcases e' with e' | ⟨o,e'⟩<;>(rw[e]at e';cases e')
    .cases S;rcases e' with e' | ⟨o,e'⟩
     .rw[e]at e';cases e';rw[U]at En;have:k.map kV=k'.map kV:=by injection En with z;injection z
      have:k=k':=zMz this;subst this;show l'.symm
     .rw[e]at e';cases e'
   obtain⟨zz,hd,xs,j,dd⟩:=Sw I.hok e;have hz:xs.length<=sizeLine:=by rw[<- Paired.length j];show zz
   have hl:(BI kvs k z).length<=sizeLine:=by have:=O4 kvs k z;omega
   have J:atKey xs k=none:=by
    have:=CK.none_of (o:=(atKey xs k).map (·.2)) (by rw[<- hv];show j.val k);simpa using this
   refine DG jC dd.typeIs BD (tD _ _ _) (qV (tupleKind<|z9 X.prog X.w) a b hd r)
     ⟨tupleKind_room_in1 hu,k,xs,XR I.hok U,dd,hz,(λp' Y=>by rw[J]at Y;cases Y),(λ_ h' tP hs=>?_)⟩
   obtain⟨q',es,ep,hq,h2,h3,h4,_,h5⟩:=tP;refine⟨z,_,P5 (ob:=.dT<|BI kvs k z) I (by rw[e];show True.intro) hs ⟨q',hq⟩ ⟨hl,hd,_,(j.put k U rr).keeps λc ys ec=>?_,q',es,ep,hq,h2,h3,h4,h5⟩,rr,q⟩;rw[upd_ne<|Sr ec e<|λz=>nomatch z];show ec
end
noncomputable def C6:List D->Option (List kC)
 | []=>some []
 |d::r=>(uK d).bind λk=>(C6 r).map (k :: ·)
def jQ:D->Option (List kC)
 |.tup ds=>C6 ds
 |_=>none
theorem zIl{K:Fg}{G:Hp}:∀{ds:List D}{ks:List kC}{vs:List V},C6 ds>ks->HA K G ds vs->vs=ks.map kV
 | [],ks,vs,h,r=>by cases h;show yB.mp r
 |d::ds,ks,vs,h,r=>by
  obtain⟨k,j,h⟩:=aA.mp h;obtain⟨l,z,rfl⟩:=cA.mp h;obtain⟨v,t,rfl,a,b⟩:=zV.mp r;rw[QR j a,zIl z b];rfl
theorem FV{K:Fg}{G:Hp}{d:D}{ks:List kC}{v:V}(h:jQ d>ks)(r:Rep K G d v):∃b,v=.ref b/\G b>(.tup<|ks.map kV):=by
 cases d with
 |tup ds=>
  obtain⟨a,vs,e,q,w⟩:=LR.mp r;rw[zIl h w]at q
  show⟨a,e,q⟩
 |_=>cases h
noncomputable def vH{κ:Type}[DecidableEq κ]{α:Type}(kvs:List (κ×α))(k:κ):Option α:=(kvs.find? λkv=>decide<|kv.1=k).map (·.2)
noncomputable def ZJ{κ:Type}[DecidableEq κ]{α:Type}(k:κ)(x:α):List (κ×α)->List (κ×α)
 | []=>[]
 |q::r=>if q.1=k then (q.1,x)::r else q::ZJ k x r
theorem zIm{κ:Type}[DecidableEq κ]{α:Type}{k:κ}{x:α}:∀(kvs:List (κ×α)),(ZJ k x kvs).map (·.1)=kvs.map (·.1)
 | []=>rfl
 |q::r=>by
  unfold ZJ;split
  .rfl
  .simp[zIm r]
section
variable {K:Fg}{G H H':Hp}{κ:Type}[DecidableEq κ]
theorem yN.get:∀{kvs:List (κ×List D)}{ws:List (κ×V)},kvs.map (·.1)=ws.map (·.1)->yN K G H (kvs.map (·.2)) (ws.map (·.2))->(vH kvs k=none/\vG ws k=none)\/∃xs b us,vH kvs k>xs/\vG ws k>.ref b/\H b>.lst us/\HA K G xs us/\b∈DK ws
 | [],[],_,_=>.inl ⟨rfl,rfl⟩
 | [],_::_,h,_=>by cases h
 |_::_,[],h,_=>by cases h
 |(k1,x)::kvs,(k2,w)::ws,h,r=>by
  dsimp[eA,pC]at h;obtain⟨rfl,h⟩:=h;dsimp[eA,yN]at r;obtain⟨b,us,t,e,z,r1,r2⟩:=r;cases e;by_cases hk:k1=k
  .right
   refine⟨x,b,us,?_,?_,z,r1,qY.mpr<|gA ..⟩
   .simp[vH,hk]
   .simp[vG,hk]
  .rcases yN.get (k:=k) h r2 with⟨q1,j⟩|⟨xs,b',S,q1,j,I,J,O⟩
   .left
    constructor
    .simpa[vH,hk] using q1
    .simpa[vG,hk] using j
   .right
    refine⟨xs,b',S,?_,?_,I,J,qY.mpr<|bA _<|qY.mp O⟩
    .simpa[vH,hk] using q1
    .simpa[vG,hk] using j
theorem yN.set(hb:H' b>.lst xV)(hr:HA K G AK xV)(hH:∀p o,p≠b->H p>o->H' p>o):∀{kvs:List (κ×List D)}{ws:List (κ×V)},kvs.map (·.1)=ws.map (·.1)->yN K G H (kvs.map (·.2)) (ws.map (·.2))->(DK ws).Nodup->vG ws k>.ref b->yN K G H' ((ZJ k AK kvs).map (·.2)) (ws.map (·.2))
 | [],[],_,_,_,h=>by cases h
 | [],_::_,h,_,_,_=>by cases h
 |_::_,[],h,_,_,_=>by cases h
 |(k1,x)::kvs,(k2,w)::ws,h,r,n,g=>by
  dsimp[eA,pC]at h;obtain⟨rfl,h⟩:=h;dsimp[eA,yN]at r;obtain⟨c,us,t,e,J,r1,r2⟩:=r;cases e;have O:(c::DK ws).Nodup:=n;have I:=OB.mp O;by_cases hk:k1=k
  .have:c=b:=by
    simp[vG,hk]at g;show g
   subst this;have es:ZJ k AK ((k1,x)::kvs)=(k1,AK)::kvs:=by simp[ZJ,hk]
   rw[es];dsimp[eA,yN];refine⟨c,xV,_,rfl,hb,hr,r2.same (zh.refl _) λp m o z=>hH p o (λq=>?_) z⟩;subst q;show I.1<|qY.mpr m
  .have g':vG ws k>.ref b:=by simpa[vG,hk] using g
   have es:ZJ k AK ((k1,x)::kvs)=(k1,x)::ZJ k AK kvs:=by simp[ZJ,hk]
   rw[es];dsimp[eA,yN]
   have hc:c≠b:=λq=>by
    subst q;rcases yN.get (k:=k) h r2 with⟨_,j⟩|⟨_,b',_,_,j,_,_,S⟩
    .rw[g']at j;cases j
    .rw[g']at j;cases j;show I.1 S
   show⟨c,us,_,rfl,hH c _ hc J,r1,yN.set hb hr hH h r2 I.2 g'⟩
theorem yN.snoc(hb:H b>.lst us)(hr:HA K G xs us):∀{l:List (List D)}{vs:List V},yN K G H l vs->yN K G H (l++[xs]) (vs++[.ref b])
 | [],_,h=>by dsimp[yN]at h;subst h;dsimp[lC,yN];show⟨b,us,[],rfl,hb,hr,rfl⟩
 |x::l,_,h=>by
  dsimp[yN]at h;obtain⟨c,kH,t,rfl,e,r,q⟩:=h;dsimp[fC,yN];show⟨c,kH,_,rfl,e,r,yN.snoc hb hr q⟩
end
noncomputable def uT(C:Addr)(i:Nat)(f:Str)(ρ:lB):Option (Option Addr×List (Str×Fl)×Fd):=match ρ[i]? with
 |some (.o c<|.ins C' fs)=>if C'=C then (match fs.lookup f with
  |some (.f y)=>some (c,fs,y)
  |_=>none) else none
 |_=>none
theorem Aj{ρ:lB}{fs:List (Str×Fl)}(h:uT C i f ρ>(c,fs,y)):ρ[i]?>(.o c<|.ins C fs)/\fs.lookup f>.f y:=by
 unfold uT at h;split at h
 .rename_i q;split at h
  .rename_i z;subst z;split at h
   .rename_i l;cases h;show⟨q,l⟩
   .cases h
  .cases h
 .cases h
def dQ(C:Addr)(i:Nat)(f:Str)(c:Option Addr)(fs:List (Str×Fl))(y:Fd)(ρ:lB):lB:=ρ.set i<|.o c<|.ins C<|qz f (.f y) fs
section
variable {X:Cx}{o a:Expr}{pos apos JB:Pos}{C:Addr}{f:Str}{fe:dC}
def Bx(C:Addr)(i:Nat)(f:Str)(fe:dC):aC:=λρ=>(uT C i f ρ).bind λq=>match q.2.2 with
 |.l xs=>if xs.length<1000000 then (fe ρ).map λd=>.nx (dQ C i f q.1 q.2.1 (.l<|xs++[d]) ρ) else none
 |_=>none
theorem zS9(i:Nat)(c:xJ X.K C)(n:qR X.K C f)(ho:PE X o (RG i))(ha:SE X a fe)(hb:bM X o f:=by rfl)(fE:bM X (.Attribute o f rG) "append":=by rfl)(DH:SQ X JB [a]:=by rfl)(iE:ZP apos JB:=by rfl)(hs:oG X a []:=by rfl)(WD:WH X JB []:=by rfl)(JK:PK X (.Call (.Attribute (.Attribute o f rG) "append" apos) [a] [] JB) none pos:=by rfl):
  SS X (.Expr (.Call (.Attribute (.Attribute o f rG) "append" apos) [a] [] JB) pos) (Bx C i f fe):=
 yg (WS (IQ XB lE mE jX (NV ho hb) (yA ha yk hs) fE DH iE hs WD) JK) λE σ H=>by
  rintro⟨G0,H0,G,ρ,o,st,j,k⟩;obtain⟨⟨c',fs,y⟩,e1,j⟩:=aA.mp j;obtain⟨O,J⟩:=Aj e1
  cases y with
  |l xs=>
   simp only at j;split at j
   .rename_i I;obtain⟨d,e2,rfl⟩:=cA.mp j;obtain⟨a1,dx,ws,b,q1,S,U,⟨vs,Z,q5⟩,q6,q7⟩:=st.fldAt O J;refine⟨_,q1,a1,C,dx,ws,_,rfl,S,c,n,U,.inl ⟨rfl,vs,MF.of Z⟩,G,ρ,d,st.bs.gh,st.er,e2,λv G' H' t r=>?_⟩;have SC:=st.step t
    have wZ:G' b=none:=by
     obtain⟨a2,dx2,RS,b2,w1,w2,w3,_,w6,_⟩:=SC.fldAt O J;rw[q1]at w1;cases w1;rw[t.h _ _ S]at w2;cases w2;rw[U]at w3;cases w3;show w6 b<|jA.mpr rfl
    have Y:=t.h _ _ Z;refine⟨b,vs,v,rfl,rfl,Y,DA (by rw[<- q5.length];show I)<|02,k σ G' _<|SC.mutF (y':=.l<|xs++[d]) O J q1 (t.h _ _ S) U (λp x e=>?_) (λp x np e=>?_) ⟨_,zL,(HA.mono t.g _ _ q5).append<|HA.cons r HA.nil⟩ (by simp[OF]) λp m=>?_⟩
    .rw[upd_ne (λz=>by rw[z,wZ]at e;cases e)];show t.s _ _ e
    .rw[upd_ne<|λz=>np<|jA.mpr z];show e
    .cases jA.mp m;show⟨.inl<|jA.mpr rfl,wZ⟩
   .cases j
  |_=>cases j
def Sz(C:Addr)(i:Nat)(f:Str)(fi fe:dC):aC:=λρ=>(fe ρ).bind λd=>(uT C i f ρ).bind λq=>match q.2.2 with
 |.l xs=>(fi ρ).bind λdi=>match di with
  |.int n=>(VH xs.length n).map λj=>.nx<|dQ C i f q.1 q.2.1 (.l<|xs.set j d) ρ
  |_=>none
 |_=>none
theorem zTB{fi:dC}(i:Nat)(c:xJ X.K C)(n:qR X.K C f)(ho:PE X o (RG i))(hi:SE X ie fi)(ha:SE X a fe)(hb:bM X o f:=by rfl) (hg:∀v,assign (.Subscript (.Attribute o f rG) ie VE) X.env v=(do
   let ov <- holding [v] (eval (.Attribute o f rG) X.env)
   let iv <- holding [v,ov] (eval ie X.env)
   standAt VE
   holding [v,ov,iv] (setItem ov iv v)
   release [v,ov,iv] []):=by intro _;rfl) (hs:jK [.Subscript (.Attribute o f rG) ie VE] a pos.line X.env=pure false:=by rfl) (hw:iK [.Subscript (.Attribute o f rG) ie VE] a X.env=pure none:=by rfl) (h1:(assignEach [.Subscript (.Attribute o f rG) ie VE] X.env).map (·.2)=[assign (.Subscript (.Attribute o f rG) ie VE) X.env]:=by rfl):SS X (.Assign [.Subscript (.Attribute o f rG) ie VE] a pos) (Sz C i f fi fe):=
 yg (Qz ha (zRB (NV ho hb) hi zKd hg) hs hw h1) λE σ H=>by
  rintro⟨G0,H0,G,ρ,o,st,I,k⟩;obtain⟨d,e1,I⟩:=aA.mp I;obtain⟨⟨c',fs,y⟩,e2,I⟩:=aA.mp I;obtain⟨O,J⟩:=Aj e2
  cases y with
  |l xs=>
   obtain⟨di,e3,I⟩:=aA.mp I
   cases di with
   |int m=>
    obtain⟨j,e4,rfl⟩:=cA.mp I;refine⟨G,ρ,d,st.bs.gh,st.er,e1,λv G1 H1 t1 r1=>?_⟩;obtain⟨a1,dx,ws,b,q1,S,U,_,_,_⟩:=(st.step t1).fldAt O J;refine⟨_,q1,a1,C,dx,ws,_,rfl,S,c,n,U,G1,ρ,_,t1.s,st.er.step t1,e3,λv2 Y H2 t2 r2=>?_⟩;have SC:=(st.step t1).step t2;obtain⟨a2,dx2,RS,b2,w1,Z,w3,⟨vs,w4,w5⟩,w6,_⟩:=SC.fldAt O J;rw[q1]at w1;cases w1;rw[t2.h _ _ S]at Z;cases Z;rw[U]at w3;cases w3;have wZ:Y b=none:=w6 b<|jA.mpr rfl;refine⟨b,vs,m,j,rfl,zv.mp r2,w4,by rw[<- w5.length];show e4,k σ Y _<|SC.mutF (y':=.l<|xs.set j d) O J q1 (t2.h _ _ S) U (λp x e=>?_) (λp x np e=>?_) ⟨_,zL,w5.set j<|Rep.mono t2.g _ _ r1⟩ (by simp[OF]) λp mm=>?_⟩
    .rw[upd_ne (λz=>by rw[z,wZ]at e;cases e)];show t2.s _ _ e
    .rw[upd_ne<|λz=>np<|jA.mpr z];show e
    .cases jA.mp mm;show⟨.inl<|jA.mpr rfl,wZ⟩
   |_=>cases I
  |_=>cases I
end
def DR(C:Addr)(i:Nat)(f:Str)(fk fd:dC):dC:=λρ=>(bN C i f ρ).bind λfl=>match fl with
 |.f (.tl kvs)=>(fk ρ).bind λkd=>(jQ kd).bind λk=>(fd ρ).map λd=>match vH kvs k with
  |some xs=>.lst xs
  |none=>d
 |_=>none
section
variable {X:Cx}{o a ke de:Expr}{pos apos JB rG:Pos}{C:Addr}{f:Str}{fe fk fd:dC}
theorem zTC(i:Nat)(hu:X.A.units+1<cLine)(c:xJ X.K C)(n:qR X.K C f)(ho:PE X o (RG i))(hk:SE X ke fk)(hd:SE X de fd)(m:M2 X (.Attribute o f rG) "get" apos ke de JB)(hb:bM X o f:=by rfl):
  SR X (.Call (.Attribute (.Attribute o f rG) "get" apos) [ke,de] [] JB) (DR C i f fk fd):=
 WF (zPd hu (NV ho hb) hk hd m) λσ H Q=>by
  rintro⟨G,ρ,d,s,er,j,k⟩;obtain⟨fl,e1,j⟩:=aA.mp j;obtain⟨x,e3,e4⟩:=aA.mp e1;obtain⟨a,q1,A⟩:=nX er e3
  cases fl with
  |v d'=>cases j
  |f y=>
   cases y with
   |tl kvs=>
    obtain⟨kd,e5,j⟩:=aA.mp j;obtain⟨kk,e6,j⟩:=aA.mp j;obtain⟨dd,e7,rfl⟩:=cA.mp j;obtain⟨dx,ws,u,w1,w2,⟨b,rfl,vs,I,z2,z3⟩,w4⟩:=A.fld e4;refine⟨_,q1,a,C,dx,ws,_,rfl,w1,c,n,w2,b,rfl,.inr ⟨vs,.inl I⟩,G,ρ,kd,s,er,e5,λv1 G1 H1 t1 r1=>?_⟩;refine⟨G1,ρ,dd,t1.s,er.step t1,e7,λv2 U H2 t2 r2=>?_⟩;obtain⟨kb,rfl,vM⟩:=FV e6 r1;have tt:=t1.trans t2;have A2:=A.step tt;obtain⟨Wi,Z8,u',Y,Zy,⟨b',e',kH,Zz,O,S⟩,J⟩:=A2.fld e4;rw[tt.h _ _ w1]at Y;cases Y;rw[w2]at Zy;cases Zy;cases e';rw[tt.h _ _ I]at Zz;cases Zz;refine⟨vG vs kk,LI.t (tt.h _ _ I)<|t2.h _ _<|t1.s _ _ vM,?_⟩;rcases yN.get (k:=kk) O S with⟨g1,g2⟩|⟨xs,b',us,g1,g2,g3,g4,g5⟩
    .rw[g2];have:=k v2 U H2 tt (.fr (by dsimp[g1];show r2));show this
    .rw[g2];refine k (.ref b') U H2 tt ?_;dsimp[g1];refine .ow (J b' ?_) g3 g4;dsimp[iI,OF];rw[tt.h _ _ I]
     show bA _ g5
   |_=>cases j
end
theorem wc:∀(fs:List (Str×Fl)),qz f v (qz f u fs)=qz f v fs
 | []=>rfl
 |(g,y)::r=>by
  by_cases e:(g==f)=true
  .simp[qz,e]
  .have e:(g==f)=false:=‹e›
   simp[qz,e,wc r]
theorem vh:∀{fs:List (Str×Fl)},fs.lookup f>y->(qz f v fs).lookup f>v
 | [],h=>by cases h
 |(g,z)::r,h=>by
  by_cases e:g=f
  .subst e;simp[qz]
  .have I:(g==f)=false:=beq_eq_false_iff_ne.mpr e;have j:(f==g)=false:=beq_eq_false_iff_ne.mpr<|Ne.symm e;rw[YA,j]at h;dsimp[qz,I,xB,if_false,YA,j];show vh h
theorem Ox{κ:Type}[DecidableEq κ]{α:Type}{k:κ}{x y:α}:∀{kvs:List (κ×α)},vH kvs k=none->ZJ k y (kvs++[(k,x)])=kvs++[(k,y)]
 | [],_=>by simp[ZJ]
 |q::r,h=>by
  by_cases e:q.1=k
  .simp[vH,e]at h
  .have h':vH r k=none:=by simpa[vH,e] using h
   dsimp[fC,ZJ,if_neg e,Ox h']
theorem Oy{κ:Type}[DecidableEq κ]{k:κ}{v:V}:∀{kvs:List (κ×V)},vG kvs k=none->vG (kvs++[(k,v)]) k>v
 | [],_=>by simp[vG]
 |q::r,h=>by
  by_cases e:q.1=k
  .simp[vG,e]at h
  .have h':vG r k=none:=by simpa[vG,e] using h
   have:=Oy (v:=v) h';simpa[vG,e] using this
theorem zNj{κ:Type}{ws:List (κ×V)}{k:κ}{p:Addr}:DK (ws++[(k,.ref p)])=DK ws++[p]:=by
 unfold DK;rw[List.filterMap_append];rfl
def rN(K:Fg){κ:Type}(mk:List (κ×V)->HO)(G H:Hp)(b:Addr)(kvs:List (κ×List D))(vs:List (κ×V)):Prop:=
 H b>mk vs/\kvs.map (·.1)=vs.map (·.1)/\yN K G H (kvs.map (·.2)) (vs.map (·.2))/\(b::DK vs).Nodup/\∀p∈b::DK vs,G p=none
def DY(K:Fg){κ:Type}(mk:List (κ×V)->HO)(G H:Hp)(b:Addr)(vs:List (κ×V))(H':Hp)(JI:List (κ×List D))(kH:List (κ×V)):Prop:=
 rN K mk G H' b JI kH/\zh G H'/\(∀p x,p∉b::DK vs->H p>x->H' p>x)/\∀q∈b::DK kH,q∈b::DK vs\/H q=none
section
variable {K:Fg}{κ:Type}{mk:List (κ×V)->HO}{G H G' H':Hp}{b b' p:Addr}{kvs:List (κ×List D)}{vs:List (κ×V)}{k:κ}{xs:List D}{us:List V}
theorem rN.step(m:rN K mk G H b kvs vs)(t:zf G H G' H'):rN K mk G' H' b kvs vs:=by
 obtain⟨m1,j,m3,m4,m5⟩:=m;refine⟨t.h _ _ m1,j,m3.same t.g λq _ o z=>t.h _ _ z,m4,λq h=>?_⟩
 cases e:G' q with
 |none=>rfl
 |some x=>
  have e:=t.f q x e<|m5 q h;rcases lA.mp h with h|h
  .rw[h,m1]at e;cases e
  .obtain⟨o,z⟩:=m3.there q<|qY.mp h;rw[e]at z;cases z
theorem rN.new(m:rN K mk G H b kvs vs)(s:zh G H)(hp:H p=none):DY K mk G H b vs (upd (upd H p<|.lst []) b<|mk<|vs++[(k,.ref p)]) (kvs++[(k,[])]) (vs++[(k,.ref p)]):=by
 obtain⟨m1,I,m3,m4,m5⟩:=m;have nd:=OB.mp m4;have j:p≠b:=λz=>by rw[z,m1]at hp;cases hp
 have hq:∀{q:Addr}{x:HO},q≠b->H q>x->upd (upd H p<|.lst []) b (mk<|vs++[(k,.ref p)]) q>x:=λn e=>by
  rw[upd_ne n,upd_ne (λz=>by rw[z,hp]at e;cases e)];show e
 have hr:b::DK (vs++[(k,.ref p)])=(b::DK vs)++[p]:=by rw[zNj];rfl
 unfold DY rN;rw[hr]
 refine⟨⟨zL,by simp[I],by rw[UA,UA];show yN.snoc (by rw[upd_ne j,zL]) HA.nil<|m3.same (zh.refl _) λq m o z=>hq (λzz=>nd.1<|zz ▸ qY.mpr m) z,QB.mpr ⟨m4,by simp,λx hx y hy z=>?_⟩,λq h=>?_⟩,
  λq x e=>hq (λz=>by rw[z,m5 b<|gA ..]at e;cases e)<|s _ _ e,λq x n e=>hq (λz=>n<|z ▸ gA ..) e,λq h=>?_⟩
 .cases jA.mp hy;subst z;rcases lA.mp hx with z|hx
  .show j z
  .obtain⟨o,e⟩:=m3.there _<|qY.mp hx;rw[hp]at e;cases e
 .rcases nA.mp h with h|h
  .show m5 q h
  .cases jA.mp h;show s.free hp
 .rcases nA.mp h with h|h
  .show .inl h
  .cases jA.mp h;show .inr hp
variable [DecidableEq κ]
theorem rN.put(m:rN K mk G H b kvs vs)(s:zh G H)(g:vG vs k>.ref b')(r:HA K G xs us):DY K mk G H b vs (upd H b'<|.lst us) (ZJ k xs kvs) vs:=by
 obtain⟨m1,I,m3,m4,m5⟩:=m;have nd:=OB.mp m4
 have j:b'∈DK vs:=by
  rcases yN.get (k:=k) I m3 with⟨_,q⟩|⟨_,_,_,_,q,_,_,j⟩<;>rw[g]at q<;>cases q;show j
 have J:=bA b j
 show⟨⟨(upd_ne λz=>nd.1 (by rw[z];show j)).trans m1,by rw[zIm];show I,yN.set zL r (λq x np e=>(upd_ne np).trans e) I m3 nd.2 g,m4,m5⟩,
  λq x e=>(upd_ne λz=>by rw[z,m5 _ J]at e;cases e).trans<|s _ _ e,λq x np e=>(upd_ne λz=>np (by rw[z];show J)).trans e,λq h=>.inl h⟩
theorem rN.gone(m:rN K mk G H b kvs vs)(g:vH kvs k=none)(j:kvs.length<1000000):vG vs k=none/\vs.length<sizeLine:=by
 constructor
 .rcases yN.get (k:=k) m.2.1 m.2.2.1 with⟨_,q⟩|⟨_,_,_,q,_⟩
  .show q
  .rw[g]at q;cases q
 .have:=congrArg HE m.2.1;dsimp[iA]at this;rw[<- this];show DA j 02
end
section
variable {K:Fg}{G0 H0 G H H':Hp}{ρ:lB}{σ:L2.St}{i:Nat}{c:Option Addr}{C a dx b:Addr}{f:Str}{fs:List (Str×Fl)}{ws:List (Str×V)}{kvs JI:List (List kC×List D)}{vs kH:List (List kC×V)}
theorem D6(h:H b>.dT vs):OF H (.tl kvs) b=b::DK vs:=by dsimp[OF];rw[h];rfl
theorem jD.mlF(s:jD K G0 H0 G H ρ σ)(S:ρ[i]?>(.o c<|.ins C fs))(O:fs.lookup f>(.f<|.tl kvs)):∃a dx ws b vs,σ[i]?>(some<|.ref a)/\H a>.ins C dx ws/\ws.lookup f>.ref b/\rN K .dT G H b kvs vs:=by
 obtain⟨a,dx,ws,b,q1,U,Y,⟨vs,J,Z,z3⟩,j,I⟩:=s.fldAt S O;rw[D6 J]at j I;show⟨a,dx,ws,b,vs,q1,U,Y,J,Z,z3,I,j⟩
theorem jD.chF(s:jD K G0 H0 G H ρ σ)(U:ρ[i]?>(.o c<|.ins C fs))(S:fs.lookup f>(.f<|.tl kvs))(q1:σ[i]?>(some<|.ref a))(Y:H a>.ins C dx ws)(Z:ws.lookup f>.ref b)(m:rN K .dT G H b kvs vs)(h:DY K .dT G H b vs H' JI kH):
  jD K G0 H0 G H' (ρ.set i<|.o c<|.ins C<|qz f (.f<|.tl JI) fs) σ:=by
 obtain⟨⟨j,z2,z3,z4,z5⟩,I,J,O⟩:=h;show s.mutF U S q1 Y Z I (by rw[D6 m.1];show J) ⟨kH,j,z2,z3⟩ (by rw[D6 j];show z4) (by rw[D6 m.1,D6 j];showλq h=>⟨O q h,z5 q h⟩)
end
section
variable {X:Cx}{o a ke:Expr}{pos apos JB rG:Pos}{C:Addr}{f:Str}{fe fk:dC}
def E6(C:Addr)(i:Nat)(f:Str)(fk:dC):aC:=λρ=>(uT C i f ρ).bind λq=>match q.2.2 with
 |.tl kvs=>(fk ρ).bind λkd=>(jQ kd).bind λk=>match vH kvs k with
  |some (_::xs)=>some<|.nx<|dQ C i f q.1 q.2.1 (.tl<|ZJ k xs kvs) ρ
  |_=>none
 |_=>none
theorem zTD{j}(i:Nat)(hu:X.A.units+1<cLine)(c:xJ X.K C)(n:qR X.K C f)(ho:PE X o (RG i))(hk:SE X ke fk)(I:iW ke:=by intro _ _;rfl)(hb:bM X o f:=by rfl)(fE:bM X (.Subscript (.Attribute o f rG) ke kp) "pop":=by rfl)(Z:SQ X JB [wW (.int 0) j ipos]:=by rfl)(iE:ZP apos JB:=by rfl)(hs:starEach [wW (.int 0) j ipos] X.env=(false,eval (.Constant (.int 0) j ipos) X.env)::starEach [] X.env:=by rfl)(WD:WH X JB []:=by rfl)(JK:PK X (.Call (.Attribute (.Subscript (.Attribute o f rG) ke kp) "pop" apos) [.Constant (.int 0) j ipos] [] JB) none pos:=by rfl):
  SS X (.Expr (.Call (.Attribute (.Subscript (.Attribute o f rG) ke kp) "pop" apos) [.Constant (.int 0) j ipos] [] JB) pos) (E6 C i f fk):=
 yg (WS (IQ XB pH rH zKe (Q5 hu (NV ho hb) hk I) (yA zQ8 yk hs) fE Z iE hs WD) JK) λE σ H=>by
  rintro⟨G0,H0,G,ρ,o,st,z,k⟩;obtain⟨⟨c',fs,y⟩,e1,z⟩:=aA.mp z;obtain⟨J,O⟩:=Aj e1
  cases y with
  |tl kvs=>
   obtain⟨kd,e5,z⟩:=aA.mp z;obtain⟨kk,e6,z⟩:=aA.mp z
   cases g0:vH kvs kk with
   |none=>rw[g0]at z;cases z
   |some l=>
    cases l with
    |nil=>rw[g0]at z;cases z
    |cons d xs=>
     rw[g0]at z;cases z;obtain⟨a1,dx,ws,b,vs,q1,S,U,m⟩:=st.mlF J O;refine⟨_,q1,a1,C,dx,ws,_,rfl,S,c,n,U,G,ρ,kd,st.bs.gh,st.er,e5,λv1 G1 H1 t1 r1=>?_⟩;obtain⟨kb,rfl,vM⟩:=FV e6 r1;have m:=m.step t1;rcases yN.get (k:=kk) m.2.1 m.2.2.1 with⟨g1,_⟩|⟨AK,b',us,g1,g2,g3,g4,_⟩<;>rw[g0]at g1<;>cases g1;obtain⟨Y,Zv,rfl,r0,rs⟩:=zV.mp g4
     show⟨b,.ref b',rfl,by rw[<- g2];show LI.t m.1<|t1.s _ _ vM,.inl ⟨rfl,_,MF.of g3⟩,b',Y::Zv,0,0,Y,rfl,rfl,g3,02,02,by simp[rP],rfl,k σ G1 _<|(st.step t1).chF J O q1 (t1.h _ _ S) U m<|m.put t1.s g2 rs⟩
  |_=>cases z
def G6(C:Addr)(i:Nat)(f:Str)(fk fe:dC):aC:=λρ=>(uT C i f ρ).bind λq=>match q.2.2 with
 |.tl kvs=>(fk ρ).bind λkd=>(jQ kd).bind λk=>match vH kvs k with
  |some xs=>if xs.length<1000000 then (fe ρ).map λd=>.nx (dQ C i f q.1 q.2.1 (.tl<|ZJ k (xs++[d]) kvs) ρ) else none
  |none=>if kvs.length<1000000 then (fe<|dQ C i f q.1 q.2.1 (.tl<|kvs++[(k,[])]) ρ).map λd=>.nx (dQ C i f q.1 q.2.1 (.tl<|kvs++[(k,[d])]) ρ) else none
 |_=>none
theorem zTE{sp dp S:Pos}(i:Nat)(hu:X.A.units+1<cLine)(c:xJ X.K C)(n:qR X.K C f)(ho:PE X o (RG i))(hk:SE X ke fk)(ha:SE X a fe)(hb:bM X o f:=by rfl)
  (vN:bM X (.Attribute o f rG) "setdefault":=by rfl)
  (BP:SQ X dp [ke,.List [] S]:=by rfl)
  (AN:ZP sp dp:=by rfl) (AQ:oG X ke [.List [] S]:=by rfl) (oO:oG X (.List [] S) []:=by rfl) (JL:WH X dp [.List [] S]:=by rfl)
  (fE:bM X (.Call (.Attribute (.Attribute o f rG) "setdefault" sp) [ke,.List [] S] [] dp) "append":=by rfl)
  (DH:SQ X JB [a]:=by rfl)
  (iE:ZP apos JB:=by rfl) (hs:oG X a []:=by rfl) (WD:WH X JB []:=by rfl)
  (JK:ZE (.Call (.Attribute (.Call (.Attribute (.Attribute o f rG) "setdefault" sp) [ke,.List [] S] [] dp) "append" apos) [a] [] JB) none pos.line X.env=pure false:=by rfl) :
  SS X (.Expr (.Call (.Attribute (.Call (.Attribute (.Attribute o f rG) "setdefault" sp) [ke,.List [] S] [] dp) "append" apos) [a] [] JB) pos) (G6 C i f fk fe):=
 yg (WS (IQ XB lE mE jX
     (IQ CG jC LJ (km hu) (NV ho hb) (yA hk (yA (Rb yk) yk oO) AQ) vN BP AN AQ JL) (yA ha yk hs) fE DH iE hs WD) JK) λE σ H=>by
  rintro⟨G0,H0,G,ρ,o,st,j,k⟩;obtain⟨⟨c',fs,y⟩,e1,j⟩:=aA.mp j;obtain⟨Z,hl⟩:=Aj e1
  cases y with
  |tl kvs=>
   obtain⟨kd,e5,j⟩:=aA.mp j;obtain⟨kk,e6,j⟩:=aA.mp j;obtain⟨a1,dx,ws,b,vs,q1,J,q3,m⟩:=st.mlF Z hl;refine⟨_,q1,a1,C,dx,ws,_,rfl,J,c,n,q3,.inr<|.inr<|.inl ⟨rfl,.inr ⟨vs,m.1⟩⟩,G,ρ,kd,st.bs.gh,st.er,e5,λv1 G1 H1 t1 r1=>⟨EB _,λp hp=>?_⟩⟩;obtain⟨kb,rfl,Y⟩:=FV e6 r1;have rO:=st.step t1;have J:=t1.h _ _ J;have m:=m.step t1;have t2:zf G1 H1 G1 (upd H1 p<|.lst []):=zf.newH t1.s hp;have O:=m.step t2;have Y:=t2.h _ _<|t1.s _ _ Y
   cases g0:vH kvs kk with
   |some xs=>
    rw[g0]at j;simp only at j;split at j
    .rename_i I;obtain⟨d,e7,rfl⟩:=cA.mp j;rcases yN.get (k:=kk) O.2.1 O.2.2.1 with⟨g1,_⟩|⟨AK,b',us,g1,g2,g3,g4,_⟩<;>rw[g0]at g1<;>cases g1
     show⟨b,.ref kb,.ref p,rfl,rfl,.inl ⟨.ref b',by rw[<- g2];show LI.t O.1 Y,.inr ⟨vs,O.1⟩,.inl ⟨rfl,us,MF.of g3⟩,G1,ρ,d,t2.s,(rO.step t2).er,e7,λv G3 H3 t3 r3=>⟨b',us,v,rfl,rfl,t3.h _ _ g3,DA (by rw[<- g4.length];show I)<|02,
      k σ G3 _ (((rO.step t2).step t3).chF Z hl q1 (t3.h _ _<|t2.h _ _ J) q3 (O.step t3)<|(O.step t3).put t3.s g2<|(HA.mono t3.g _ _ g4).append<|HA.cons r3 HA.nil)⟩⟩⟩
    .cases j
   |none=>
    rw[g0]at j;simp only at j;split at j
    .rename_i I;obtain⟨d,e7,rfl⟩:=cA.mp j;obtain⟨hv,Hc⟩:=m.gone g0 I;have ch:=m.new (k:=kk) t1.s hp;have VN:=rO.chF Z hl q1 J q3 m ch;have RZ:upd (upd H1 p<|.lst []) b (.dT<|vs++[(kk,.ref p)]) p>.lst []:=by rw[upd_ne (λz=>by rw[z,m.1]at hp;cases hp),zL]
     have q4:upd (upd H1 p<|.lst []) b (.dT<|vs++[(kk,.ref p)]) a1>.ins C dx ws:=by
      rw[upd_ne (λz=>by rw[z,m.1]at J;cases J),upd_ne (λz=>by rw[z,hp]at J;cases J)];show J
     refine⟨b,.ref kb,.ref p,rfl,rfl,.inr ⟨by rw[<- hv];show LI.t O.1 Y,_,fQ.t O.1 Y Hc,?_⟩⟩;rw[zKf _ hv];refine⟨.inl ⟨rfl,[],MF.of RZ⟩,G1,_,d,VN.bs.gh,VN.er,e7,λv G4 H4 U r4=>⟨p,[],v,rfl,rfl,U.h _ _ RZ,02,?_⟩⟩;have m4:=ch.1.step U;have fin:=(VN.step U).chF (ZA (BA.mp Z).1) (vh hl) q1 (U.h _ _ q4) q3 m4<|m4.put U.s (Oy hv)<|HA.cons r4 HA.nil;rw[Ox g0,pY,wc]at fin;show k σ G4 _ fin
    .cases j
  |_=>cases j
end
structure Dg(K:Fg)(G H G' H':Hp)(x x':Ob)(a:Addr):Prop where
 g:zh G G'
 gh:zh G' H'
 fr:∀b o,G' b>o->G b=none->H b=none\/b∈YE H x a
 h:∀b o,H b>o->b∉YE H x a->H' b>o
 at_:At K G' H' x' a
 new:∀c∈YE H' x' a,c∈YE H x a\/H c=none
def Jh(K:Fg)(f:Ob->List D->Option Ob)(n:Nat):Sp:=λvs H Q _=>∃G x a ds ws x',vs=.ref a::ws/\zh G H/\At K G H x a/\HA K G ds ws/\ds.length+1=n/\f x ds>x'/\∀G' H',Dg K G H G' H' x x' a->Q .non H'
noncomputable def fT(a:Addr)(ρ:lB):Option Ob:=match (ρ[(0:Nat)]?:Option Sl) with
 |some (.o c y)=>if c>a then some y else none
 |_=>none
def fV(N:List Str)(F:aC)(a:Addr)(x:Ob)(ds:List D):Option Ob:=(F<|(.o (some a) x::ds.map Sl.v)++pA (N.length-(ds.length+1)) .un).bind λo=>match o with
 |.nx ρ=>fT a ρ
 |_=>none
section
variable {K:Fg}{G H:Hp}{a:Addr}{x:Ob}{ds:List D}{ws:List V}{m:Nat}{τ:L2.St}
theorem zP2{u:Sl}(h:((Sl.o (some a) x::ds.map Sl.v)++pA m Sl.un)[i]?>u)(o:u.isOwn=true):i=0/\u=.o (some a) x:=by
 cases i with
 |zero=>simp at h;show⟨rfl,h.symm⟩
 |succ i=>
  exfalso
  have hm:u∈(ds.map Sl.v++pA m Sl.un):=by
   have:((Sl.o (some a) x::ds.map Sl.v)++pA m Sl.un)[i+1]?=(ds.map Sl.v++pA m Sl.un)[i]?:=by simp
   rw[this]at h;show xA h
  rcases nA.mp hm with q|q
  .obtain⟨d',_,rfl⟩:=LA.mp q;cases o
  .rw[(FE.mp q).2]at o;cases o
theorem wf(j:((V.ref a::ws).map some++τ)[0]?>(some<|.ref a)):(b∈YE H x a->qT H ((Sl.o (some a) x::ds.map Sl.v)++pA m Sl.un) ((V.ref a::ws).map some++τ) b=none) /\
  (b∉YE H x a->qT H ((Sl.o (some a) x::ds.map Sl.v)++pA m Sl.un) ((V.ref a::ws).map some++τ) b=H b):=by
 refine⟨λh=>Mn (i:=0) (s:=.o (some a) x) (a:=a) (by simp) rfl j h,λh=>?_⟩;unfold qT;rw[if_neg];rintro⟨i,s,c,h1,h2,h3,z⟩;obtain⟨rfl,rfl⟩:=zP2 h1 h2;rw[j]at h3;cases h3;show h z
end
theorem zRb{P:Program}{w:World}{K:Fg}{mg:gF}{base:Heap}{x qual:Str}{st:Stmt}{fa:Addr}{fd:FuncData}{N ps:List Str}{k:Nat}{F:aC}{f:Ob->List D->Option Ob}
  (Z:nN K x qual st fa fd) (S:zU N ps (zI st))
  (gE:∀(I:Value)(A:Around)(outer:List Env)(s:Shared)(H:Hp),IF k (A.deeper<|envOfC qual (zI st) s.heap.objs.size fa I)->QJ (QL EI P w K mg base N qual (zI st) fa I A outer s H E0).nox (yF st) F)
  (hf:∀a y ds y',ds.length+1=ps.length->f y ds>y'->fV N F a y ds>y'):KI P w K mg base EI (k+1) fa fd ps (Jh K f ps.length):=by
 refine Z.ok S (λvs H Q E h=>?_) (λI A outer s H vs Q E hr h=>?_)
 .obtain⟨G,y,a,ds,ws,y',rfl,_,_,r,U,_⟩:=h;rw[kA,<- r.length,U]
 .obtain⟨G,y,a,ds,ws,y',rfl,sm,O,r,U,ef,kk⟩:=h;have h1:QJ (QL EI P w K mg base N qual (zI st) fa I A outer s H E).nox (yF st) F:=gE I A outer s H hr;refine⟨_,h1,?_⟩;obtain⟨o,e1,j⟩:=aA.mp<|hf a y ds y' U ef;have vU:Er K G H (.o (some a) y::ds.map Sl.v) ((V.ref a::ws).map some):=Ba rfl ⟨⟨O.rep,O.nd⟩,λc' e=>by cases e;rfl⟩ O.fr r;have er:=vU.app (N.length-(ds.length+1)) (pA (N.length-(ds.length+1)) none) (by simp);have es:L2.fM N (.ref a::ws)=(V.ref a::ws).map some++pA (N.length-(ds.length+1)) none:=by rw[B5,kA,<- r.length]
  have kL:((V.ref a::ws).map some++pA (N.length-(ds.length+1)) none)[0]?>(some<|.ref a):=by simp
  have no:=λb=>wf (H:=H) (x:=y) (ds:=ds) (m:=N.length-(ds.length+1)) (b:=b) kL
  rw[es];refine⟨G,qT H _ _,G,_,o,er.toSt sm,e1,?_⟩
  cases o with
  |nx ρ=>
   have j:fT a ρ>y':=j;unfold fT at j;split at j
   .rename_i c y1 Y;split at j
    .rename_i hc;cases j;subst hc;intro uC G' H' SC;obtain⟨J,g1,g2,g3⟩:=SC.er.slot 0 _ Y rfl;have:J=a:=g2.2 a rfl;subst this;refine kk G' H' ⟨SC.bs.gg,SC.bs.gh,λb o e n=>?_,λb o e n=>SC.bs.hh b o (by rw[(no b).2 n];show e),⟨g2.1.1,g2.1.2,g3⟩,λc m=>?_⟩
     .have z:=SC.bs.fr b o e n;by_cases hb:b∈YE H y J
      .show .inr hb
      .rw[(no b).2 hb]at z;show .inl z
     .have z:=SC.ows 0 _ J Y rfl g1 c m;by_cases hb:c∈YE H y J
      .show .inl hb
      .rw[(no c).2 hb]at z;show .inr z
    .cases j
   .cases j
  |rt d=>cases j
  |bk ρ=>cases j
  |ct ρ=>cases j
  |ro ρ=>cases j
  |rm d ρ=>cases j
structure Z6(P:Program)(w:World)(K:Fg)(mg:gF)(base:Heap)(C:Addr)(k:Nat)(m:Str)(n:Nat)(F:Ob->List D->Option Ob):Prop where
 ex:∃f fd ps,KI P w K mg base EI k f fd ps (Jh K F n)/\fW K C m f/\L2.OL K fd ps []
def KQ(C:Addr)(m:Str)(i:Nat)(fl:dD)(F:Ob->List D->Option Ob):aC:=λρ=>match ρ[i]? with
 |some (.o c x)=>if DM C m x=true then (fl ρ).bind λds=>(F x ds).map λx'=>.nx (ρ.set i<|.o c x') else none
 |_=>none
section
variable {X:Cx}{o e a b:Expr}{es:List Expr}{pos pos' apos p1 p2:Pos}{C:Addr}{m:Str}{i k n:Nat}{F:Ob->List D->Option Ob}{fl:dD}{f g:dC}
theorem Bc(i:Nat)(h:Z6 X.prog X.w X.K X.mg X.base C k m n F)(c:xJ X.K C)(hr:IF k X.A)(ho:PE X o (RG i))(ha:SA X (e::es) fl)(hn:(e::es).length+1=n)(jL:oG X e es:=by rfl)(S:WH X pos es:=by rfl)(JK:PK X (.Call (.Attribute o m apos) (e::es) [] pos) none pos':=by rfl) (ht:eval (.Call (.Attribute o m apos) (e::es) [] pos) X.env=(do
   let ov <- eval o X.env
   standAt apos.atName
   let (f,first) <- holding [ov] (getMethod ov m pl)
   callWith pos f first (backTo pos<|starEach (e::es) X.env) (backToKw pos<|keywordEach [] X.env)):=by rfl) :
  SS X (.Expr (.Call (.Attribute o m apos) (e::es) [] pos) pos') (KQ C m i fl F):=by
 obtain⟨f,fd,ps,U,hm,hb⟩:=h.ex;refine yg (WS (Qd (pl:=pl) (dvs:=[]) (ds:=[]) (E:=E0) ho c hm U hr hb .nil QX ha.pa jL S ht) JK) λE σ H zz=>?_
 obtain⟨G0,H0,G,ρ,out,st,j,kk⟩:=zz;unfold KQ at j;split at j
 .rename_i c' x J;split at j
  .rename_i hx;obtain⟨ds,z,j⟩:=aA.mp j;obtain⟨O,e3,rfl⟩:=cA.mp j;obtain⟨a,q1,r1,r2⟩:=st.er.slot i _ J rfl;have A:At X.K G H x a:=⟨r1.1.1,r1.1.2,r2⟩
   obtain⟨dx,ws,q2,q3⟩:=Bj A hx;refine⟨_,q1,a,dx,ws,rfl,q2,q3,G,ρ,ds,st.bs.gh,st.er,z,λvs Y H1 t r=>?_⟩;change Jh X.K F n (V.ref a::(vs++[])) H1 _ E0;rw[oB];refine⟨Y,x,a,ds,vs,O,rfl,t.s,A.step t,r,by rw[ha.len _ _ z];show hn,e3,λG2 H2 ch=>?_⟩;have SC:=st.step t;show kk σ G2 H2 (SC.mutG J rfl (w:=.o c' O) rfl q1 ch.g ch.gh ch.fr ch.h ⟨⟨ch.at_.rep,ch.at_.nd⟩,r1.2⟩ λp I=>⟨ch.new p I,ch.at_.fr p I⟩)
  .cases j
 .cases j
def i8(f g:dC):dC:=λρ=>(f ρ).bind λx=>(WX x).bind λkvs=>(g ρ).bind λy=>(uK y).bind λk=>VM kvs k
theorem zNn(hu:X.A.units+1<cLine)(hg:Gl X "dict")(hm:X.mg "dict" = none)(ha:SE X a f)(hb:SE X b g)(VD:X.calm=true:=by rfl)
  (O:oG X a []:=by rfl) (S:WH X p1 []:=by rfl) (hs:iW b:=by intro _ _;rfl) :
  SE X (.Subscript (.Call (.Name "dict" p2) [a] [] p1) b pos) (i8 f g):=
 WF (Q5 hu (W9 (zLy VD) hg hm zVj (yA (zE ha) yk O) 02 02 O S) hb hs) λσ H Q=>by
  rintro⟨G,ρ,d,sm,er,j,k⟩;obtain⟨x,e1,j⟩:=aA.mp j;obtain⟨kvs,e2,j⟩:=aA.mp j;obtain⟨y,e3,j⟩:=aA.mp j;obtain⟨J,e4,I⟩:=aA.mp j;refine⟨G,ρ,x,sm,er,e1,λv1 U H1 t1 r1=>⟨U,x,kvs,v1,rfl,t1.s,r1,e2,λa ws Y H2 t2 h1 h2 h3 rk=>?_⟩⟩;have tt:=t1.trans t2;refine⟨Y,ρ,y,t2.s,er.step tt,e3,λv3 Z H3 t3 r3=>?_⟩;have ev:=QR e4 r3;rcases(rk.mono t3.g).get (k:=J) with⟨z,_⟩|⟨d',v,z1,z2,z3⟩
  .rw[z]at I;cases I
  .rw[I]at z1;cases z1;refine⟨a,v,rfl,?_,k v Z H3 (tt.trans t3) z3⟩;rw[ev,<- z2];show LI.k<|t3.h _ _ h3
end
section
variable {X:Cx}{e:Expr}{es:List Expr}{pos p JB:Pos}{fl:dD}
def By(i:Nat):aC:=λρ=>(ρ[i]?).bind λs=>if s.isOwn=true then some (.ro s) else none
theorem zNo(i:Nat)(he:PE X e (RG i)):SS X (.Return (some e) pos) (By i):=yg (Y5 he) λQ σ H=>by
 rintro⟨G0,H0,G,ρ,o,st,j,k⟩;obtain⟨s,z,j⟩:=aA.mp j;split at j
 .rename_i I;cases j;obtain⟨a,q1,J,O⟩:=st.er.slot i s z<|Sl.obj_of_own I;show⟨_,q1,k a G H st.bs J λc m=>⟨O c m,st.ows i s a z I q1 c m⟩⟩
 .cases j
end
def IY(K:Fg)(G' H' H:Hp)(s:Sl)(v:V):Prop:=(∃d,s=.v d/\Rep K G' d v)\/(s.isOwn=true/\∃a,v=.ref a/\bO K G' H' s a/\∀c∈JE H' s a,H c=none/\G' c=none)
theorem jD.setRet{K:Fg}{G0 H0 G H G' H':Hp}{ρ:lB}{σ:L2.St}{i:Nat}{s:Sl}{v:V}(st:jD K G0 H0 G H ρ σ)(t:zf G H G' H')(r:IY K G' H' H s v):jD K G0 H0 G' H' (ρ.set i s) (σ.set i<|some v):=by
 rcases r with⟨d,rfl,r⟩|⟨j,a,rfl,r,n⟩
 .show(st.step t).setV r
 .show st.setNew t j r n
def Ji(K:Fg)(f:List D->Option Sl)(n:Nat):Sp:=λvs H Q _=>∃G ds s,zh G H/\HA K G ds vs/\ds.length=n/\f ds>s/\∀v G' H',zf G H G' H'->IY K G' H' H s v->Q v H'
def S6:Out->Option Sl
 |.rt d=>some<|.v d
 |.ro s=>if s.isOwn=true then some s else none
 |.nx _=>some<|.v .non
 |_=>none
def bY(N:List Str)(F:aC)(ds:List D):Option Sl:=(F<|ds.map Sl.v++pA (N.length-ds.length) .un).bind S6
theorem zNp{N:List Str}{ds:List D}{i:Nat}{u:Sl}(h:(ds.map Sl.v++pA (N.length-ds.length) Sl.un)[i]?>u)(o:u.isOwn=true):False:=by
 rcases nA.mp (xA h) with q|q
 .obtain⟨d',_,rfl⟩:=LA.mp q;cases o
 .rw[(FE.mp q).2]at o;cases o
theorem Rq{P:Program}{w:World}{K:Fg}{mg:gF}{base:Heap}{x qual:Str}{st:Stmt}{fa:Addr}{fd:FuncData}{N ps:List Str}{k:Nat}{F:aC}{f:List D->Option Sl}
  (O:nN K x qual st fa fd) (S:zU N ps (zI st))
  (Z:∀(z:Value)(A:Around)(outer:List Env)(s:Shared)(H:Hp),IF k (A.deeper<|envOfC qual (zI st) s.heap.objs.size fa z)->QJ (QL EI P w K mg base N qual (zI st) fa z A outer s H E0).nox (yF st) F)
  (hf:∀ds d,ds.length=ps.length->f ds>d->bY N F ds>d):KI P w K mg base EI (k+1) fa fd ps (Ji K f ps.length):=by
 refine O.ok S (λvs H Q E h=>?_) (λz A outer s H vs Q E hr h=>?_)
 .obtain⟨G,ds,d,_,r,I,_⟩:=h;rw[<- r.length,I]
 .obtain⟨G,ds,d,sm,r,I,Y,kk⟩:=h;have h1:QJ (QL EI P w K mg base N qual (zI st) fa z A outer s H E).nox (yF st) F:=Z z A outer s H hr;refine⟨_,h1,?_⟩;obtain⟨o,U,j⟩:=aA.mp<|hf ds d I Y;have er:=Ot (N:=N) (H:=H) r;refine⟨G,H,G,_,o,⟨er,⟨sm,zh.refl _,zh.refl _,λb o e n=>by rw[e]at n;cases n⟩,λi u a h1 h2 h3=>(zNp h1 h2).elim⟩,U,?_⟩
  cases o with
  |rt d'=>
   cases j
   showλv G' H' b J=>kk v G' H' ⟨b.gg,b.hh,b.gh,b.fr⟩<|.inl ⟨_,rfl,J⟩
  |nx ρ=>
   cases j
   showλuC G' H' SC=>kk .non G' H' ⟨SC.bs.gg,SC.bs.hh,SC.bs.gh,SC.bs.fr⟩<|.inl ⟨_,rfl,bQ.mpr rfl⟩
  |ro s'=>
   dsimp[S6]at j;split at j
   .rename_i ho;cases j
    showλa G' H' b J n=>kk _ G' H' ⟨b.gg,b.hh,b.gh,b.fr⟩ (.inr ⟨ho,a,rfl,J,λc m=>⟨(n c m).2,(n c m).1⟩⟩)
   .cases j
  |bk ρ=>cases j
  |ct ρ=>cases j
  |rm d ρ=>cases j
structure kW(P:Program)(w:World)(K:Fg)(mg:gF)(base:Heap)(k:Nat)(x:Str)(n:Nat)(F:List D->Option Sl):Prop where
 ex:∃f fd ps,KI P w K mg base EI k f fd ps (Ji K F n)/\mg x>.ref f/\pB K (.ref f)=true/\L2.OL K fd ps []
section
variable {X:Cx}{e:Expr}{es:List Expr}{pos p JB:Pos}{fl:dD}{k n:Nat}{F:List D->Option Sl}{x y:Str}
noncomputable def eQ(i:Nat)(fl:dD)(F:List D->Option Sl):aC:=λρ=>(fl ρ).bind λds=>(F ds).map λs=>.nx<|ρ.set i s
theorem Bd(i:Nat)(h:kW X.prog X.w X.K X.mg X.base k x n F)(hr:IF k X.A)(Z:X.env.kindOf x>.globalImplicit)(hn:(e::es).length=n)(ha:SA X (e::es) fl)(Y:X.N.Nodup)(hi:X.N[i]?>y)(hy:Loc X.env.scope y)(hs:PK X (.Call (.Name x p) (e::es) [] JB) (some<|.Name y pos') pos:=by rfl)(hf:SN X y:=by first|show .inl rfl|show .inr rfl|assumption)(S:BM x:=by decide)(he:oG X e es:=by rfl)(I:WH X JB es:=by rfl):
  SS X (.Assign [.Name y pos'] (.Call (.Name x p) (e::es) [] JB) pos) (eQ i fl F):=by
 obtain⟨f,fd,ps,J,hm,hk,hb⟩:=h.ex;refine yg (aT Y hi hy (Ay (E:=E0) J hr Z hm hk hb .nil QX ha.pa S he I) hs hf) λE σ H zz=>?_
 obtain⟨G0,H0,G,ρ,o,st,j,kk⟩:=zz;obtain⟨ds,z,j⟩:=aA.mp j;obtain⟨s,U,rfl⟩:=cA.mp j;refine⟨G,ρ,ds,st.bs.gh,st.er,z,λvs O H1 t1 r1=>?_⟩;change Ji X.K F n (vs++[]) H1 _ E0;rw[oB];show⟨O,ds,s,t1.s,r1,by rw[ha.len _ _ z,hn],U,λv G' H' t r=>kk _ G' H'<|(st.step t1).setRet t r⟩
end
noncomputable def lW{κ:Type}[DecidableEq κ]{α:Type}(kvs:List (κ×α))(k:κ)(v:α):List (κ×α):=if (kvs.any λkv=>decide<|kv.1=k)=true then kvs.map (λkv=>if kv.1=k then (kv.1,v) else kv) else kvs++[(k,v)]
section
variable {K:Fg}{G H:Hp}{κ:Type}[DecidableEq κ]
theorem Oz{k:κ}:∀{kvs:List (κ×D)}{ws:List (κ×V)},kvs.map (·.1)=ws.map (·.1)->HA K G (kvs.map (·.2)) (ws.map (·.2))->(vH kvs k=none/\vG ws k=none)\/∃d v,vH kvs k>d/\vG ws k>v/\Rep K G d v
 | [],[],_,_=>.inl ⟨rfl,rfl⟩
 | [],_::_,h,_=>by cases h
 |_::_,[],h,_=>by cases h
 |(k1,x)::kvs,(k2,w)::ws,h,r=>by
  dsimp[eA,pC]at h;obtain⟨rfl,h⟩:=h;obtain⟨r1,r2⟩:=HA.inv r;by_cases hk:k1=k
  .right
   show⟨x,w,by simp[vH,hk],by simp[vG,hk],r1⟩
  .rcases Oz (k:=k) h r2 with⟨q1,j⟩|⟨d,v,q1,j,z⟩
   .left
    show⟨by simpa[vH,hk] using q1,by simpa[vG,hk] using j⟩
   .right
    show⟨d,v,by simpa[vH,hk] using q1,by simpa[vG,hk] using j,z⟩
theorem zKw{α j:Type}:∀{kvs:List (κ×α)}{ws:List (κ×j)},kvs.map (·.1)=ws.map (·.1)->(kvs.any λkv=>decide<|kv.1=k)=ws.any λkv=>decide (kv.1=k)
 | [],[],_=>rfl
 | [],_::_,h=>by cases h
 |_::_,[],h=>by cases h
 |(k1,x)::kvs,(k2,w)::ws,h=>by
  dsimp[eA,pC]at h;obtain⟨rfl,h⟩:=h;dsimp[mD,zKw h]
theorem zIo(r:Rep K G d v):∀{kvs:List (κ×D)}{ws:List (κ×V)},kvs.map (·.1)=ws.map (·.1)->HA K G (kvs.map (·.2)) (ws.map (·.2)) ->
  (kvs.map λkv=>if kv.1=k then (kv.1,d) else kv).map (·.1)=(ws.map λkv=>if kv.1=k then (kv.1,v) else kv).map (·.1)/\HA K G ((kvs.map λkv=>if kv.1=k then (kv.1,d) else kv).map (·.2)) ((ws.map λkv=>if kv.1=k then (kv.1,v) else kv).map (·.2))
 | [],[],_,_=>⟨rfl,HA.nil⟩
 | [],_::_,h,_=>by cases h
 |_::_,[],h,_=>by cases h
 |(k1,x)::kvs,(k2,w)::ws,h,q=>by
  dsimp[eA,pC]at h;obtain⟨rfl,h⟩:=h;obtain⟨r1,r2⟩:=HA.inv q;obtain⟨j,i2⟩:=zIo r h r2;by_cases hk:k1=k
  .dsimp[eA,hk,if_true];show⟨by rw[j],HA.cons r i2⟩
  .dsimp[eA,hk,if_false];show⟨by rw[j],HA.cons r1 i2⟩
theorem zP4{k:κ}{d:D}{v:V}(r:Rep K G d v){kvs:List (κ×D)}{ws:List (κ×V)}(h:kvs.map (·.1)=ws.map (·.1))(q:HA K G (kvs.map (·.2)) (ws.map (·.2))):
  (lW kvs k d).map (·.1)=(BI ws k v).map (·.1)/\HA K G ((lW kvs k d).map (·.2)) ((BI ws k v).map (·.2)):=by
 unfold lW BI;rw[zKw h];split
 .show zIo r h q
 .rw[UA,UA,UA,UA];show⟨by rw[h];rfl,q.append<|HA.cons r HA.nil⟩
end
noncomputable def CS(ρ:lB)(i:Nat):Option (List<|List kC×D):=match ρ[i]? with
 |some (.o _<|.p<|.t kvs)=>some kvs
 |_=>none
theorem Ta{ρ:lB}{i:Nat}{kvs:List (List kC×D)}(h:CS ρ i>kvs):∃c,ρ[i]?>(.o c<|.p<|.t kvs):=by
 unfold CS at h;split at h
 .rename_i c l q;cases h;show⟨c,q⟩
 .cases h
theorem GR{K:Fg}{G H:Hp}{ρ:lB}{σ:L2.St}{i:Nat}{c:Option Addr}{kvs:List (List kC×D)}(e:Er K G H ρ σ)(h:ρ[i]?>(.o c<|.p<|.t kvs)):∃a ws,σ[i]?>(some<|.ref a)/\G a=none/\H a>.dT ws/\kvs.map (·.1)=ws.map (·.1)/\HA K G (kvs.map (·.2)) (ws.map (·.2))/\∀j,c>j->a=j:=by
 obtain⟨a,q1,I,J⟩:=e.slot i _ h rfl;obtain⟨ws,O,S,U⟩:=I.1.1;show⟨a,ws,q1,J a<|jA.mpr rfl,O,S,U,I.2⟩
section
variable {X:Cx}{o a b ke:Expr}{pos pos' VE:Pos}{i:Nat}{f fk:dC}{x:Str}
def sV(i:Nat)(fk:dC):dC:=λρ=>(CS ρ i).bind λkvs=>(fk ρ).bind λd=>(jQ d).bind λk=>vH kvs k
theorem zTI(hu:X.A.units+1<cLine)(i:Nat)(Z:PE X o (RG i))(hk:SE X ke fk)(hs:iW ke:=by intro _ _;rfl):SE X (.Subscript o ke pos) (sV i fk):=WF (Q5 hu Z hk hs) λσ H Q=>by
 rintro⟨G,ρ,d,s,er,j,k⟩;obtain⟨kvs,I,j⟩:=aA.mp j;obtain⟨U,Y,j⟩:=aA.mp j;obtain⟨J,e3,O⟩:=aA.mp j;obtain⟨c,I⟩:=Ta I;obtain⟨a,ws,q1,q2,q3,q4,q5,_⟩:=GR er I;refine⟨_,q1,G,ρ,U,s,er,Y,λv G' H' t r=>?_⟩;obtain⟨kb,rfl,vM⟩:=FV e3 r;rcases Oz (k:=J) q4 (HA.mono t.g _ _ q5) with⟨z,_⟩|⟨d',v',S,z2,z3⟩
 .rw[O]at z;cases z
 .rw[O]at S;cases S;show⟨a,v',rfl,by rw[<- z2];show LI.t (t.h _ _ q3)<|t.s _ _ vM,k _ G' H' t z3⟩
def U6(i:Nat)(fk:dC):iF:=λρ=>(fk ρ).bind λd=>(CS ρ i).bind λkvs=>(jQ d).map λk=>!(vH kvs k).isSome
theorem zTJ(Z:X.A.units+1<cLine)(i:Nat)(Y:PE X o (RG i))(hk:SE X ke fk)(hm:behindInMarks .NotIn o=false:=by rfl):SB X (.Compare ke [.NotIn] [o] pos) (U6 i fk):=
 UV (zRA (zM3 Z hk Y) hm) λσ H Q=>by
  rintro⟨G,ρ,bb,s,er,j,k⟩;obtain⟨O,S,j⟩:=aA.mp j;obtain⟨kvs,I,j⟩:=aA.mp j;obtain⟨J,e3,rfl⟩:=cA.mp j;obtain⟨c,I⟩:=Ta I;refine⟨G,ρ,O,s,er,S,λv G' H' t r=>?_⟩;obtain⟨kb,rfl,vM⟩:=FV e3 r;obtain⟨a,ws,q1,q2,q3,q4,q5,_⟩:=GR (er.step t) I;refine⟨_,q1,a,_,rfl,LI.t q3<|t.s _ _ vM,_,rfl,?_⟩;rcases Oz (k:=J) q4 q5 with⟨z,z'⟩|⟨d',v',z1,z2,z3⟩
  .rw[z'];have:=k G' H' t;rw[z]at this;show this
  .rw[z2];have:=k G' H' t;rw[z1]at this;show this
def Bz(i:Nat)(fk f:dC):aC:=λρ=>(f ρ).bind λd=>(CS ρ i).bind λkvs=>(fk ρ).bind λdk=>(jQ dk).bind λk=>if kvs.length<16000000 then some (.nx<|ρ.set i<|.o none<|.p<|.t<|lW kvs k d) else none
theorem zTK(hu:X.A.units+1<cLine)(i:Nat)(ho:PE X o (RG i))(hk:SE X ke fk)(ha:SE X a f)(hs:PK X a (some<|.Subscript o ke VE) pos:=by rfl):
  SS X (.Assign [.Subscript o ke VE] a pos) (Bz i fk f):=
 yg (zM4 hu ho hk ha hs) λE σ H=>by
  rintro⟨G0,H0,G,ρ,o,st,j,k⟩;obtain⟨d,e1,j⟩:=aA.mp j;obtain⟨kvs,I,j⟩:=aA.mp j;obtain⟨dk,e3,j⟩:=aA.mp j;obtain⟨O,e4,j⟩:=aA.mp j;split at j
  .rename_i hl;cases j;obtain⟨c,I⟩:=Ta I;refine⟨G,ρ,d,st.bs.gh,st.er,e1,λv Y H1 t1 r1=>?_⟩;obtain⟨a1,ws,q1,q2,q3,q4,q5,_⟩:=GR (st.step t1).er I;refine⟨_,q1,Y,ρ,dk,t1.s,st.er.step t1,e3,λv2 Z H2 t2 r2=>?_⟩;have SC:=(st.step t1).step t2;obtain⟨a2,RS,w1,S,w3,U,w5,w6⟩:=GR SC.er I;rw[q1]at w1;cases w1;obtain⟨kb,rfl,vM⟩:=FV e4 r2
   have J:RS.length<sizeLine:=by
    have:=congrArg HE U;dsimp[iA]at this;rw[<- this];show DA hl 02
   obtain⟨p1,p2⟩:=zP4 (k:=O) (Rep.mono t2.g _ _ r1) U w5;refine⟨a1,_,rfl,fQ.t w3 (t2.s _ _ vM) J,k σ Z _<|SC.mutG (u:=.o c<|.p<|.t kvs) (w:=.o none<|.p<|.t<|lW kvs O d) I rfl rfl q1 (zh.refl _) (λb x e=>?_) (λb x e n=>by rw[n]at e;cases e) (λb x e n=>?_) ⟨⟨⟨_,zL,p1,p2⟩,by simp[YE,OF]⟩,λ_ z=>by cases z⟩ λp m=>?_⟩
   .rw[upd_ne (λz=>by rw[z,S]at e;cases e)];show t2.s _ _ e
   .rw[upd_ne<|λz=>n<|jA.mpr z];show e
   .cases jA.mp m;show⟨.inl<|jA.mpr rfl,S⟩
  .cases j
def zTL(tk tv:TE):TE:=λσ H Q=>∀p,H p=none->tk σ (upd H p<|.dT []) λx H1=>tv σ H1 λy H2=>∃kb ks,x=.ref kb/\H2 kb>(.tup<|ks.map kV)/\H2 p>.dT []/\Q (.ref p) (upd H2 p<|.dT [(ks,y)])
theorem zNr(hu:X.A.units+1<cLine)(hk:PE X ke tk)(hv:PE X a tv):PE X (.Dict [some ke] [a] pos) (zTL tk tv):=by
 intro pins s σ H Q I q;have hn:=I.hok.fresh<|rA s.heap.objs.size;have I1:=I.laid (a:=s.heap.objs.size) (o:=.dT []) (h':=s.heap.push { cls:=.type "dict",data:=.dict #[] }) (t':=s.toks) (λ_ _ q=>oA _ q) (rA _)<|zKg s.heap I.big;refine wpAny_Dict_any rfl rfl (by simp) (by simp) (pairTrees_cons_walk<|UC (hk pins _ σ _ _ I1<|q _ hn) λu s1 ⟨x,H1,I1,rx,q1⟩=>UC (hv pins s1 σ H1 _ I1 q1) λw2 s2 ⟨y,H2,j,ry,U,ks,ex,O,J,q2⟩=>pairTrees_nil_walk ?_);subst ex;cases rx;obtain⟨z,hd,xs,S,dd⟩:=Sw j.hok J;cases S;unfold storeAll;dsimp[IH,YF];refine wpAny_bind (wpAny_bind<|wpAny_dictSet_heap (knd:=tupleKind<|z9 X.prog X.w) (show X.A.units<cLine by omega) (XR j.hok O) dd (λh' tP hs=>wpAny_pure<|wpAny_pure ?_)<|EB _);obtain⟨Y,es,Z,hq,h2,h3,h4,_,h5⟩:=tP;refine⟨.ref s.heap.objs.size,_,?_,rfl,q2⟩;refine P5 (ob:=.dT [(ks,y)]) j (by rw[J];show True.intro) hs ⟨Y,hq⟩ ⟨by rw[eB,sizeLine_eq];omega,hd,[(ks,U,w2)],.cons ⟨rfl,?_,ry⟩ .nil,Y,es,Z,hq,h2,h3,h4,h5⟩;change upd H2 s.heap.objs.size _ U=_;rw[upd_ne<|Sr O J<|λz=>nomatch z];show O
def JX(i:Nat)(fk f:dC):aC:=λρ=>(fk ρ).bind λdk=>(f ρ).bind λd=>(jQ dk).map λk=>.nx<|ρ.set i<|.o none<|.p<|.t [(k,d)]
theorem zTM(hu:X.A.units+1<cLine)(i:Nat)(hk:SE X ke fk)(ha:SE X a f)(hN:X.N.Nodup)(hi:X.N[i]?>x)(hx:Loc X.env.scope x)(hs:PK X (.Dict [some ke] [a] p1) (some<|.Name x pos') pos:=by rfl)(hf:SN X x:=by first|show .inl rfl|show .inr rfl|assumption):SS X (.Assign [.Name x pos'] (.Dict [some ke] [a] p1) pos) (JX i fk f):=
 yg (aT hN hi hx (zNr hu hk ha) hs hf) λQ σ H=>by
  rintro⟨G0,H0,G,ρ,o,st,I,k⟩;obtain⟨Y,Z,I⟩:=aA.mp I;obtain⟨d,e2,I⟩:=aA.mp I;obtain⟨j,e3,rfl⟩:=cA.mp I;intro p hp;have J:zf G H G (upd H p<|.dT []):=zf.newH st.bs.gh hp;refine⟨G,ρ,Y,J.s,st.er.step J,Z,λv1 U H1 t1 r1=>?_⟩;refine⟨U,ρ,d,t1.s,(st.er.step J).step t1,e2,λv2 O H2 t2 r2=>?_⟩;obtain⟨kb,rfl,vM⟩:=FV e3 r1;have tt:=t1.trans t2;have ep:H2 p>.dT []:=tt.h _ _ zL
  have S:O p=none:=by
   cases q:O p with
   |none=>rfl
   |some o=>have:=tt.f p o q<|st.bs.gh.free hp;rw[zL]at this;cases this
  refine⟨kb,j,rfl,t2.h _ _<|t1.s _ _ vM,ep,?_⟩
  have t3:zf G H O (upd H2 p<|.dT [(j,v2)]):=⟨tt.g,λb u e=>by
    rw[upd_ne<|yV e hp];show(J.trans tt).h _ _ e,λb u e=>by
    rw[upd_ne (λz=>by rw[z,S]at e;cases e)];show t2.s _ _ e,(J.trans tt).f⟩
  show k _ O _ (st.setNew t3 (w:=.o none<|.p<|.t [(j,d)]) rfl ⟨⟨⟨_,zL,rfl,HA.cons r2 HA.nil⟩,by simp[YE,OF]⟩,λ_ z=>by cases z⟩ λc m=>by
   cases jA.mp m;show⟨hp,S⟩)
end
noncomputable def iR(ρ:lB)(i:Nat):Option (List<|kC×List D):=match ρ[i]? with
 |some (.o _<|.p<|.ml kvs)=>some kvs
 |_=>none
theorem Rr{ρ:lB}(h:iR ρ i>kvs):∃c,ρ[i]?>(.o c<|.p<|.ml kvs):=by
 unfold iR at h;split at h
 .rename_i c l q;cases h;show⟨c,q⟩
 .cases h
section
variable {K:Fg}{G0 H0 G H H':Hp}{ρ:lB}{σ:L2.St}{i:Nat}{c:Option Addr}{b:Addr}{kvs JI:List (kC×List D)}{vs kH:List (kC×V)}
theorem J6(h:H b>.dK vs):JE H (.o c<|.p<|.ml kvs) b=b::DK vs:=by dsimp[JE,YE,OF];rw[h];rfl
theorem Ca(e:Er K G H ρ σ)(h:ρ[i]?>(.o c<|.p<|.ml kvs)):∃a ws,σ[i]?>(some<|.ref a)/\rN K .dK G H a kvs ws:=by
 obtain⟨a,q1,⟨⟨⟨ws,I,O,S⟩,nd⟩,_⟩,j⟩:=e.slot i _ h rfl;have nd:(JE H (.o c<|.p<|.ml kvs) a).Nodup:=nd;rw[J6 I]at nd j;show⟨a,ws,q1,I,O,S,nd,j⟩
theorem jD.chM(s:jD K G0 H0 G H ρ σ)(U:ρ[i]?>(.o c<|.p<|.ml kvs))(q1:σ[i]?>(some<|.ref b))(m:rN K .dK G H b kvs vs)(h:DY K .dK G H b vs H' JI kH):jD K G0 H0 G H' (ρ.set i<|.o none<|.p<|.ml JI) σ:=by
 obtain⟨⟨j,Y,Z,z4,z5⟩,I,O,S⟩:=h;have nd:(JE H' (.o none<|.p<|.ml JI) b).Nodup:=by rw[J6 j];show z4
 show s.mutG U rfl rfl q1 (zh.refl _) I (λq x e n=>by rw[n]at e;cases e) (by rw[J6 m.1];showλq x e n=>O q x n e) ⟨⟨⟨kH,j,Y,Z⟩,nd⟩,λ_ z=>by cases z⟩ (by rw[J6 m.1,J6 j];showλq h=>⟨S q h,z5 q h⟩)
end
section
variable {X:Cx}{o a b ke e:Expr}{pos pos' p1:Pos}{i:Nat}{f fk:dC}{x:Str}
noncomputable def Rt(i:Nat):aC:=λρ=>some<|.nx<|ρ.set i<|.o none<|.p<|.ml []
theorem zP7(i:Nat)(I:X.N.Nodup)(hi:X.N[i]?>x)(hx:Loc X.env.scope x)(hs:PK X (.Dict [] [] p1) (some<|.Name x pos') pos:=by rfl)
  (hf:SN X x:=by first|show .inl rfl|show .inr rfl|assumption):SS X (.Assign [.Name x pos'] (.Dict [] [] p1) pos) (Rt i):=
 yg (aT I hi hx zKh hs hf) λQ σ H=>by
  rintro⟨G0,H0,G,ρ,o,st,j,k⟩;cases j;intro p hp
  show k _ G _ (st.setNew (zf.newH st.bs.gh hp) (w:=.o none<|.p<|.ml []) rfl ⟨⟨⟨_,zL,rfl,rfl⟩,by simp[YE,OF,zL,D8,DK]⟩,λ_ z=>by cases z⟩ λc m=>by
   have:c=p:=by simpa[JE,YE,OF,zL,D8,DK] using m
   subst this;show⟨hp,st.bs.gh.free hp⟩)
def Ru(i:Nat):dD:=λρ=>(iR ρ i).bind λkvs=>JQ (.lst<|kvs.map λq=>gP q.1)
theorem zNw(i:Nat)(S:X.calm=true)(Z:Gl X "sorted")(hm:X.mg "sorted" = none)(ho:PE X e (RG i))
  (hs:oG X e []:=by rfl) (O:WH X pos []:=by rfl):SF X (.Call (.Name "sorted" p1) [e] [] pos) (Ru i):=
 WF (j5 (kj S) Z hm mX (yA ho yk hs) 02 02 hs O) λσ H Q=>by
  rintro⟨G,ρ,ys,s,er,Y,k⟩;obtain⟨kvs,I,U⟩:=aA.mp Y;obtain⟨c,I⟩:=Rr I;obtain⟨a,ws,q1,q3,q4,_⟩:=Ca er I;refine⟨_,q1,a,ws,ys,rfl,q3,?_,λl us J r=>?_⟩
  .rw[<- U]
   have z:(ws.map λq=>gP q.1)=(kvs.map λq=>gP q.1):=by
    have:=congrArg (uJ gP) q4;rw[JA,JA]at this;show this.symm
   rw[z]
  .show k l us G _ (zf.newH s J) J (s.free J) zL<|r _ _
def Tb(i:Nat)(fk:dC):dC:=λρ=>(iR ρ i).bind λkvs=>(fk ρ).bind λd=>(uK d).bind λk=>(vH kvs k).map .lst
theorem zP8(hu:X.A.units+1<cLine)(i:Nat)(ho:PE X o (RG i))(hk:SE X ke fk)(hs:iW ke:=by intro _ _;rfl):SR X (.Subscript o ke pos) (Tb i fk):=WF (Q5 hu ho hk hs) λσ H Q=>by
 rintro⟨G,ρ,d,s,er,j,k⟩;obtain⟨kvs,J,j⟩:=aA.mp j;obtain⟨S,U,j⟩:=aA.mp j;obtain⟨I,e3,j⟩:=aA.mp j;obtain⟨xs,O,rfl⟩:=cA.mp j;obtain⟨c,J⟩:=Rr J;obtain⟨a,ws,q1,q3,_⟩:=Ca er J;refine⟨_,q1,G,ρ,S,s,er,U,λv G' H' t r=>?_⟩;have Y:=QR e3 r;subst Y;obtain⟨a2,RS,w1,w3,w4,w5,w6,w7⟩:=Ca (er.step t) J;rw[q1]at w1;cases w1;rcases yN.get (k:=I) w4 w5 with⟨z,_⟩|⟨AK,b',us,g1,g2,g3,Z,g5⟩
 .rw[O]at z;cases z
 .rw[O]at g1;cases g1;show⟨a,.ref b',rfl,by rw[<- g2];show LI.k (k:=I) w3,k _ G' H' t<|.ow (w7 b'<|bA _ g5) g3 Z⟩
end
section
variable {X:Cx}{o a ke:Expr}{pos apos JB:Pos}{fe fk:dC}
def Bk(i:Nat)(fk fe:dC):aC:=λρ=>(iR ρ i).bind λkvs=>(fk ρ).bind λkd=>(uK kd).bind λk=>match vH kvs k with
  |some xs=>if xs.length<1000000 then (fe ρ).map λd=>.nx (ρ.set i<|.o none<|.p<|.ml<|ZJ k (xs++[d]) kvs) else none
  |none=>if kvs.length<1000000 then (fe<|ρ.set i<|.o none<|.p<|.ml<|kvs++[(k,[])]).map λd=>.nx (ρ.set i<|.o none<|.p<|.ml<|kvs++[(k,[d])]) else none
theorem zP9(i:Nat)(hu:X.A.units+1<cLine)(ho:PE X o (RG i))(hk:SE X ke fk)(ha:SE X a fe)(vN:bM X o "setdefault":=by rfl)(BP:SQ X dp [ke,.List [] lp]:=by rfl)(AN:ZP sp dp:=by rfl)(AQ:oG X ke [.List [] lp]:=by rfl)(oO:oG X (.List [] lp) []:=by rfl)(JL:WH X dp [.List [] lp]:=by rfl)(fE:bM X (.Call (.Attribute o "setdefault" sp) [ke,.List [] lp] [] dp) "append":=by rfl)(DH:SQ X JB [a]:=by rfl)(iE:ZP apos JB:=by rfl)(hs:oG X a []:=by rfl)(WD:WH X JB []:=by rfl)(JK:PK X (.Call (.Attribute (.Call (.Attribute o "setdefault" sp) [ke,.List [] lp] [] dp) "append" apos) [a] [] JB) none pos:=by rfl):
  SS X (.Expr (.Call (.Attribute (.Call (.Attribute o "setdefault" sp) [ke,.List [] lp] [] dp) "append" apos) [a] [] JB) pos) (Bk i fk fe):=
 yg (WS (IQ XB lE mE jX
     (IQ CG jC LJ (km hu) ho (yA hk (yA (Rb yk) yk oO) AQ) vN BP AN AQ JL) (yA ha yk hs) fE DH iE hs WD) JK) λE σ H=>by
  rintro⟨G0,H0,G,ρ,o,st,j,k⟩;obtain⟨kvs,O,j⟩:=aA.mp j;obtain⟨kd,e5,j⟩:=aA.mp j;obtain⟨kk,e6,j⟩:=aA.mp j;obtain⟨c,O⟩:=Rr O;obtain⟨b,vs,q1,m⟩:=Ca st.er O;refine⟨_,q1,.inr<|.inr<|.inl ⟨rfl,.inl ⟨vs,m.1⟩⟩,G,ρ,kd,st.bs.gh,st.er,e5,λv1 S H1 t1 r1=>⟨EB _,λp hp=>?_⟩⟩;have ev:=QR e6 r1;subst ev;have rO:=st.step t1;have m:=m.step t1;have t2:zf S H1 S (upd H1 p<|.lst []):=zf.newH t1.s hp;have J:=m.step t2
  cases g0:vH kvs kk with
  |some xs=>
   rw[g0]at j;simp only at j;split at j
   .rename_i I;obtain⟨d,Z,rfl⟩:=cA.mp j;rcases yN.get (k:=kk) J.2.1 J.2.2.1 with⟨g1,_⟩|⟨AK,b',us,g1,g2,g3,g4,_⟩<;>rw[g0]at g1<;>cases g1
    show⟨b,_,.ref p,rfl,rfl,.inl ⟨.ref b',by rw[<- g2];show LI.k (k:=kk) J.1,.inl ⟨vs,J.1⟩,.inl ⟨rfl,us,MF.of g3⟩,S,ρ,d,t2.s,(rO.step t2).er,Z,λv G3 H3 t3 r3=>⟨b',us,v,rfl,rfl,t3.h _ _ g3,DA (by rw[<- g4.length];show I)<|02,
     k σ G3 _ (((rO.step t2).step t3).chM O q1 (J.step t3)<|(J.step t3).put t3.s g2<|(HA.mono t3.g _ _ g4).append<|HA.cons r3 HA.nil)⟩⟩⟩
   .cases j
  |none=>
   rw[g0]at j;simp only at j;split at j
   .rename_i I;obtain⟨d,Z,rfl⟩:=cA.mp j;obtain⟨hv,Hc⟩:=m.gone g0 I;have ch:=m.new (k:=kk) t1.s hp;have Y:=rO.chM O q1 m ch;have RZ:upd (upd H1 p<|.lst []) b (.dK<|vs++[(kk,.ref p)]) p>.lst []:=by rw[upd_ne (λz=>by rw[z,m.1]at hp;cases hp),zL]
    refine⟨b,_,.ref p,rfl,rfl,.inr ⟨by rw[<- hv];show LI.k (k:=kk) J.1,_,fQ.k (k:=kk) J.1 Hc,?_⟩⟩;rw[zKf _ hv];refine⟨.inl ⟨rfl,[],MF.of RZ⟩,S,_,d,Y.bs.gh,Y.er,Z,λv G4 H4 U r4=>⟨p,[],v,rfl,rfl,U.h _ _ RZ,02,?_⟩⟩;have m4:=ch.1.step U;have fin:=(Y.step U).chM (ZA (BA.mp O).1) q1 m4<|m4.put U.s (Oy hv)<|HA.cons r4 HA.nil;rw[Ox g0,pY]at fin;show k σ G4 _ fin
   .cases j
end
noncomputable def uX(ρ:lB)(i:Nat):Option Ob:=match ρ[i]? with
 |some (.l xs)=>some<|.p<|.l xs
 |some (.m kvs)=>some<|.p<|.m kvs
 |some (.o _ x)=>some x
 |some (.b _ x)=>some x
 |_=>none
theorem zKy{K:Fg}{G H:Hp}{ρ:lB}{σ:L2.St}{i:Nat}{x:Ob}(e:Er K G H ρ σ)(h:uX ρ i>x):∃a,σ[i]?>(some<|.ref a)/\At K G H x a:=by
 unfold uX at h;split at h
 .rename_i xs q;cases h;obtain⟨a,h1,h2,h3⟩:=e.slot i _ q rfl;show⟨a,h1,h2,by simp[YE,OF],h3⟩
 .rename_i xs q;cases h;obtain⟨a,h1,h2,h3⟩:=e.slot i _ q rfl;show⟨a,h1,h2,by simp[YE,OF],h3⟩
 .rename_i c y q;cases h;obtain⟨a,h1,h2,h3⟩:=e.slot i _ q rfl;show⟨a,h1,h2.1.1,h2.1.2,h3⟩
 .rename_i c y q;cases h;obtain⟨a,h1,h2,h3⟩:=e.slot i _ q rfl;show⟨a,h1,h2.1.1,h2.1.2,h3⟩
 .cases h
section
variable {X:Cx}{o a e:Expr}{es:List Expr}{pos:Pos}{i:Nat}{f:dC}{fl:dD}
def AV(i:Nat)(f:dC):dC:=λρ=>(f ρ).bind λd=>(uX ρ i).bind λx=>match x with
 |.p (.m kvs)=>(uK d).map λk=>.bl (VM kvs k).isSome
 |_=>none
theorem zV2(hu:X.A.units+1<cLine)(i:Nat)(ho:PE X o (RG i))(ha:SE X a f)(hm:behindInMarks .In o=false:=by rfl):SE X (.Compare a [.In] [o] pos) (AV i f):=
 WF (zUu (zRF hu ha ho) hm) λσ H Q=>by
  rintro⟨G,ρ,d,s,er,j,k⟩;obtain⟨U,Y,j⟩:=aA.mp j;obtain⟨x,Z,j⟩:=aA.mp j
  cases x with
  |ins C fs=>cases j
  |p y=>
   cases y with
   |m kvs=>
    obtain⟨I,e3,rfl⟩:=cA.mp j;refine⟨G,ρ,U,s,er,Y,λv G' H' t r=>?_⟩;obtain⟨S,q1,A⟩:=zKy (er.step t) Z;obtain⟨ws,z1,z2⟩:=A.rep;have ek:=QR e3 r;subst ek;refine⟨_,q1,S,_,rfl,LI.k (k:=I) z1,?_⟩;rcases z2.get (k:=I) with⟨J,O⟩|⟨d',v',J,O,y3⟩
    .rw[O];show k _ G' H' t (by rw[J];show yc.mpr rfl)
    .rw[O];show k _ G' H' t (by rw[J];show yc.mpr rfl)
   |_=>cases j
def tAo(K:Fg)(i:Nat)(f:dD):TA:=λσ H Q=>∃G ρ ds x,zh G H/\Er K G H ρ σ/\f ρ>ds/\uX ρ i>x/\∀vs a G' H',zf G H G' H'->HA K G' ds vs->At K G' H' x a->Q (vs++[.ref a]) H'
structure V7(X:Cx)(es:List Expr)(i:Nat)(f:dD):Prop where
 pa:PA X es (tAo X.K i f)
 len:∀ρ ds,f ρ>ds->ds.length+1=es.length
theorem zTO(i:Nat)(z:PE X o (RG i))(hs:oG X o []:=by rfl):V7 X [o] i zN where
 pa:=Cc (yA z yk hs) λσ H Q=>by
  rintro⟨G,ρ,ds,x,s,er,j,ex,k⟩;cases j;obtain⟨a,q1,A⟩:=zKy er ex;show⟨_,q1,k [] a G H (zf.refl s) HA.nil A⟩
 len:=λρ ds h=>by cases h;rfl
noncomputable def lU(f:dC)(g:dD):dD:=λρ=>(f ρ).bind λd=>(g ρ).map (d :: ·)
theorem Pa(ha:SE X e f)(hr:V7 X es i fl)(hs:oG X e es:=by rfl):V7 X (e::es) i (lU f fl) where
 pa:=Cc (yA ha hr.pa hs) λσ H Q=>by
  rintro⟨G,ρ,ds,x,s,er,z,ex,k⟩;obtain⟨d,I,z⟩:=aA.mp z;obtain⟨J,j,rfl⟩:=cA.mp z;refine⟨G,ρ,d,s,er,I,λv O H1 t1 r1=>⟨O,ρ,J,x,t1.s,er.step t1,j,ex,λvs a G' H' t r A=>?_⟩⟩;show k (v::vs) a G' H' (t1.trans t) (HA.cons (Rep.mono t.g _ _ r1) r) A
 len:=λρ ds h=>by
  obtain⟨d,I,h⟩:=aA.mp h;obtain⟨J,j,rfl⟩:=cA.mp h;have:=hr.len _ _ j;dsimp[kA];omega
end
def pV(K:Fg)(κ:Nat->Addr)(f:List D->Ob->Option (Except Nat D))(n:Nat):Sp:=λvs H Q E=>∃G ds x a ws r,vs=ws++[.ref a]/\zh G H/\At K G H x a/\HA K G ds ws/\ds.length+1=n/\f ds x>r/\match r with
 |.ok d=>∀v G' H',zf G H G' H'->Rep K G' d v->Q v H'
 |.error c=>∀G' H',zf G H G' H'->E (.ref<|κ c) none H'
noncomputable def L6(N:List Str)(F:lB->Option fG)(a:Addr)(ds:List D)(x:Ob):Option (Except Nat D):=(F<|(ds.map Sl.v++[.b a x])++pA (N.length-(ds.length+1)) .un).bind λo=>match o with
 |.o (.rt d)=>some<|.ok d
 |.o (.nx _)=>some<|.ok .non
 |.ex c=>some<|.error c
 |_=>none
theorem zQA{K:Fg}{G H:Hp}{a:Addr}{x:Ob}{ds:List D}{vs:List V}(A:At K G H x a)(r:HA K G ds vs):Er K G H (ds.map Sl.v++[.b a x]) ((vs++[V.ref a]).map some):=by
 have J:=r.length
 have low:∀{i:Nat}{s:Sl},(ds.map Sl.v++[Sl.b a x])[i]?>s->(∃d,s=.v d/\ds[i]?>d)\/(i=ds.length/\s=.b a x):=λ{i s} h=>by
  by_cases hi:i<ds.length
  .rw[XA ‹hi›,CA]at h
   cases q:ds[i]? with
   |none=>rw[q]at h;cases h
   |some d=>rw[q]at h;cases h;show .inl ⟨d,rfl,rfl⟩
  .rw[mB<|by simpa using hi]at h;have hm:=xA h;have EH:=(BA.mp h).1;dsimp[iA,eB]at EH;show .inr ⟨01,jA.mp hm⟩
 refine⟨by simp[J],λi d h=>?_,λi s h o=>?_,λi j s t b c ne h1 S h2 U=>?_⟩
 .rcases low h with⟨d',z,q⟩|⟨_,z⟩
  .cases z;obtain⟨v,I,O⟩:=r.get q;have hi:i<vs.length:=(BA.mp I).1;show⟨v,by rw[UA,XA ‹hi›,CA,I];rfl,O⟩
  .cases z
 .rcases low h with⟨d',z,q⟩|⟨hi,z⟩
  .subst z;cases o
  .subst z;refine⟨a,?_,⟨⟨A.rep,A.nd⟩,rfl⟩,A.fr⟩;rw[hi,J,UA,mB<|by simp];simp
 .rcases low h1 with⟨d',z,q⟩|⟨hi,z⟩<;>(subst z;cases S)
section
variable {P:Program}{w:World}{K:Fg}{mg:gF}{base:Heap}{κ:Nat->Addr}
theorem zTP{x qual:Str}{st:Stmt}{fa:Addr}{fd:FuncData}{N ps:List Str}{k:Nat}{F:lB->Option fG}{f:List D->Ob->Option (Except Nat D)}
  (O:nN K x qual st fa fd) (S:zU N ps (zI st))
  (gE:∀(z:Value)(A:Around)(outer:List Env)(s:Shared)(H:Hp)(E:XK),IF k (A.deeper<|envOfC qual (zI st) s.heap.objs.size fa z)->sP (YD P w K mg base N qual (zI st) fa z A outer s H E) κ E (yF st) F)
  (hf:∀a ds y r,ds.length+1=ps.length->f ds y>r->L6 N F a ds y>r):KI P w K mg base (GK P w) (k+1) fa fd ps (pV K κ f ps.length):=by
 obtain⟨oc,od,kV,U,pm,an,z,ct,RP,rfl,lk,uM⟩:=O.ex;refine Cb lk uM S (λvs H Q E h=>?_) λA outer s H vs Q E hr h=>?_
 .obtain⟨G,ds,y,a,ws,d,rfl,_,_,r,I,_⟩:=h;rw[IA,eB,<- r.length,I]
 .obtain⟨G,ds,y,a,ws,r,rfl,sm,hA,J,I,Z,kk⟩:=h;refine⟨_,gE z A outer s H E hr,?_⟩;obtain⟨o,Y,j⟩:=aA.mp<|hf a ds y r I Z;have er:=(zQA hA J).app (N.length-(ds.length+1)) (pA (N.length-(ds.length+1)) none) (by simp);have es:L2.fM N (ws++[.ref a])=(ws++[V.ref a]).map some++pA (N.length-(ds.length+1)) none:=by rw[B5,IA,eB,<- J.length]
  rw[es];refine⟨G,H,G,_,o,⟨er,⟨sm,zh.refl _,zh.refl _,λb o e n=>by rw[e]at n;cases n⟩,λi u b h1 h2 h3=>?_⟩,Y,?_⟩
  .exfalso;rcases nA.mp (xA h1) with q|q
   .rcases nA.mp q with q|q
    .obtain⟨d',_,rfl⟩:=LA.mp q;cases h2
    .rw[jA.mp q]at h2;cases h2
   .rw[(FE.mp q).2]at h2;cases h2
  .cases o with
   |o x=>
    cases x with
    |rt d'=>
     cases j
     showλv G' H' b r'=>kk v G' H' ⟨b.gg,b.hh,b.gh,b.fr⟩ r'
    |nx ρ=>
     cases j
     showλuC G' H' SC=>kk .non G' H' ⟨SC.bs.gg,SC.bs.hh,SC.bs.gh,SC.bs.fr⟩<|bQ.mpr rfl
    |bk ρ=>cases j
    |ct ρ=>cases j
    |ro ρ=>cases j
    |rm d ρ=>cases j
   |ex c=>
    cases j
    showλG' H' b=>kk G' H' ⟨b.gg,b.hh,b.gh,b.fr⟩
end
structure Tc(P:Program)(w:World)(K:Fg)(mg:gF)(base:Heap)(κ:Nat->Addr)(k:Nat)(x:Str)(n:Nat)(F:List D->Ob->Option (Except Nat D)):Prop where
 ex:∃f fd ps,KI P w K mg base (GK P w) k f fd ps (pV K κ F n)/\mg x>.ref f/\pB K (.ref f)=true/\L2.OL K fd ps []
section
variable {X:Cx}{κ:Nat->Addr}{W:XK}{e:Expr}{es:List Expr}{fl:dD}{pos p JB:Pos}{x y:Str}{k n i:Nat}{f:List D->Ob->Option (Except Nat D)}
def Td(i:Nat)(fl:dD)(f:List D->Ob->Option (Except Nat D)):lB->Option (Except Nat D):=λρ=>(fl ρ).bind λds=>(uX ρ i).bind λx=>f ds x
theorem zQB(h:Tc X.prog X.w X.K X.mg X.base κ k x n f)(Y:vO (GK X.prog X.w) X W)(hr:IF k X.A)(Z:X.env.kindOf x>.globalImplicit)(hn:(e::es).length=n)(ha:V7 X (e::es) i fl)(S:BM x:=by decide)
  (he:oG X e es:=by rfl) (I:WH X pos es:=by rfl) :
  PE X (.Call (.Name x p) (e::es) [] pos) (QS X.K κ W<|Td i fl f):=by
 obtain⟨fa,fd,ps,J,hm,hk,hb⟩:=h.ex;refine WF (Ay (E:=W) J hr Z hm hk hb .nil Y ha.pa S he I) λσ H Q zz=>?_
 obtain⟨G,ρ,r,s,er,j,k⟩:=zz;obtain⟨xs,z,j⟩:=aA.mp j;obtain⟨y,U,e3⟩:=aA.mp j;refine⟨G,ρ,xs,y,s,er,z,U,λvs a O H1 t1 r1 A=>?_⟩;change pV X.K κ f n ((vs++[.ref a])++[]) H1 Q W;rw[oB];refine⟨O,xs,y,a,vs,r,rfl,t1.s,A,r1,by rw[ha.len _ _ z,hn],e3,?_⟩
 cases r with
 |ok d=>showλv G' H' t r=>k v G' H' (t1.trans t) r
 |error c=>showλG' H' t=>k G' H'<|t1.trans t
end
section
variable {X:Cx}{c a b:Expr}{pos:Pos}{p:iF}{f g:dC}
noncomputable def BV(p:iF)(f g:dC):dC:=λρ=>(p ρ).bind λk=>if k=true then f ρ else g ρ
theorem zQC(hc:SB X c p)(ha:SE X a f)(hb:SE X b g):SE X (.IfExp c a b pos) (BV p f g):=WF (zPR hc ha hb) λσ H Q=>by
 rintro⟨G,ρ,d,s,er,J,k⟩;obtain⟨kk,I,j⟩:=aA.mp J;refine⟨G,ρ,kk,s,er,I,λz H1 t1=>?_⟩
 cases kk with
 |true=>rw[if_pos rfl]at j ⊢;show⟨z,ρ,d,t1.s,er.step t1,j,λv G' H' t r=>k v G' H' (t1.trans t) r⟩
 |false=>rw[if_neg cB]at j ⊢;show⟨z,ρ,d,t1.s,er.step t1,j,λv G' H' t r=>k v G' H' (t1.trans t) r⟩
end
theorem jv{α j:Type}{f g:α->List j}:∀{l:List α},(∀x∈l,f x=g x)->l.flatMap f=l.flatMap g
 | [],_=>rfl
 |x::l,h=>by rw[dB,dB,h x<|gA ..,jv λy m=>h y<|bA _ m]
section
variable {K:Fg}{G0 H0 G H:Hp}{ρ:lB}{σ:L2.St}{i:Nat}{a C dx:Addr}{c:Option Addr}{f:Str}{fs:List (Str×Fl)}{ws:List (Str×V)}{fl:Fl}{u:V}
theorem zIp{α:Type}{q:Str×α}:∀{fs:List (Str×α)},fs.lookup f=none->q∈fs->q.1≠f
 | [],_,m=>by cases m
 |(g,y)::r,h,m=>by
  rw[YA]at h;split at h
  .cases h
  .rename_i e;rcases lA.mp m with z|m
   .subst z;showλz=>by subst z;simp at e
   .show zIp h m
theorem wg{α:Type}{x g:Str}{y:α}:∀{fs:List (Str×α)},(fs++[(g,y)]).lookup x=none->fs.lookup x=none/\x≠g
 |[],h=>by
  refine⟨rfl,λz=>?_⟩;subst z
  simp at h
 |(k,z)::r,h=>by
  rw[fC,YA]at h;rw[YA];split at h
  .cases h
  .show wg h
theorem At.addL(h:At K G H (.ins C fs) a)(ha:H a>.ins C dx ws)(hl:fs.lookup f=none)(hr:fP K G H fl u)(hn:(iI H fl u).Nodup)(hf:∀p∈iI H fl u,p∉YE H (.ins C fs) a/\G p=none):
  At K G (upd H a<|.ins C dx<|OH f u ws) (.ins C<|fs++[(f,fl)]) a/\YE (upd H a<|.ins C dx<|OH f u ws) (.ins C<|fs++[(f,fl)]) a=YE H (.ins C fs) a++iI H fl u:=by
 obtain⟨Wi,Z8,z1,z2,z3,z4⟩:=h.rep;rw[ha]at z1;cases z1;have j:YE H (.ins C fs) a=a::dx::wI H fs ws:=by dsimp[YE];rw[ha];rfl
 have I:=h.nd;have fr:=h.fr;rw[j]at I fr;have n1:=OB.mp I;have n2:=OB.mp n1.2;have Y:upd H a (.ins C dx<|OH f u ws) a>(.ins C dx<|OH f u ws):=zL;have Gp:dx≠a:=λz=>n1.1 (by rw[z];show gA ..)
 have S:∀(q:Str×Fl),q∈fs->(OH f u ws).lookup q.1=ws.lookup q.1:=λq m=>by rw[M4,if_neg<|zIp hl m]
 have stay:∀(q:Str×Fl),q∈fs->∃v,ws.lookup q.1>v/\fP K G (upd H a<|.ins C dx<|OH f u ws) q.2 v/\iI (upd H a<|.ins C dx<|OH f u ws) q.2 v=iI H q.2 v:=λq m=>by
  obtain⟨v,r1,r2⟩:=z3 q m;refine⟨v,r1,r2.same (zh.refl _) λp mp o zz=>?_⟩;rw[upd_ne<|λz=>n1.1 (by rw[<- z];show bA _<|tX m r1 mp)];show zz
 have U:=hr.same (zh.refl _) (H':=upd H a<|.ins C dx<|OH f u ws) λp mp o zz=>by
  rw[upd_ne<|λz=>(hf p mp).1 (by rw[j,z];show gA ..)];show zz
 have O:(OH f u ws).lookup f>u:=by rw[M4,if_pos rfl]
 have wO:wI (upd H a<|.ins C dx<|OH f u ws) fs (OH f u ws)=wI H fs ws:=by
  unfold wI;refine jv λq m=>?_
  obtain⟨v,r1,_,r3⟩:=stay q m;rw[S q m,r1];show r3
 have J:YE (upd H a<|.ins C dx<|OH f u ws) (.ins C<|fs++[(f,fl)]) a=(a::dx::wI H fs ws)++iI H fl u:=by
  dsimp[YE];rw[Y];dsimp[YW]
  have:wI (upd H a<|.ins C dx<|OH f u ws) (fs++[(f,fl)]) (OH f u ws)=wI H fs ws++iI H fl u:=by
   rw[<- wO,<- U.2];unfold wI;rw[GO,dB,VQ,oB];dsimp[O]
  rw[this];rfl
 refine⟨⟨⟨dx,_,Y,by rw[upd_ne Gp];show z2,λq m=>?_,λx e=>?_,?_⟩,?_,λp m=>?_⟩,by rw[J,j]⟩
 .rcases nA.mp m with m|m
  .obtain⟨v,r1,r2,_⟩:=stay q m;show⟨v,by rw[S q m];show r1,r2⟩
  .cases jA.mp m;show⟨u,O,U.1⟩
 .obtain⟨e1,e2⟩:=wg e;rw[M4,if_neg e2];show z4.1 x e1
 .have:=Md f u ws;rw[IA,eB];have:=z4.2;omega
 .rw[J,QB];refine⟨I,hn,λp m q mq=>?_⟩;intro z;subst z;show(hf p mq).1 (by rw[j];show m)
 .rw[J]at m;rcases nA.mp m with m|m
  .show fr p m
  .show(hf p m).2
theorem jD.addL(s:jD K G0 H0 G H ρ σ)(S:ρ[i]?>(.o c<|.ins C fs))(I:σ[i]?>(some<|.ref a))(ha:H a>.ins C dx ws)(hl:fs.lookup f=none)(hr:fP K G H fl u)(hn:(iI H fl u).Nodup)
  (hf:∀p∈iI H fl u,G p=none/\H0 p=none/\∀(j:Nat)(v:Sl)(b:Addr),ρ[j]?>v->v.isObj=true->σ[j]?>(some<|.ref b)->p∉JE H v b) :
  jD K G0 H0 G (upd H a<|.ins C dx<|OH f u ws) (ρ.set i<|.o c<|.ins C<|fs++[(f,fl)]) σ:=by
 obtain⟨a',h1,h2,h3⟩:=s.er.slot i _ S rfl;rw[I]at h1;cases h1;have A:At K G H (.ins C fs) a:=⟨h2.1.1,h2.1.2,h3⟩
 obtain⟨A',eF⟩:=A.addL ha hl hr hn λp m=>⟨(hf p m).2.2 i _ a S rfl I,(hf p m).1⟩
 have hi:i<ρ.length:=(BA.mp S).1;have hG:G a=none:=h3 a<|MR rfl;have aX:∀{j:Nat}{v:Sl}{b:Addr},j≠i->ρ[j]?>v->v.isObj=true->σ[j]?>(some<|.ref b)->a∉JE H v b:=λ{j v b} ne h o q m=>s.er.sep i j _ v a b (Ne.symm ne) S rfl h o I q a (MR rfl) m
 have all:∀{j:Nat}{v:Sl}{b:Addr},j≠i->ρ[j]?>v->v.isObj=true->σ[j]?>(some<|.ref b)->bO K G (upd H a<|.ins C dx<|OH f u ws) v b/\JE (upd H a<|.ins C dx<|OH f u ws) v b=JE H v b:=λ{j v b} ne h o q=>by
  obtain⟨b',g1,g2,g3⟩:=s.er.slot j v h o;rw[q]at g1;cases g1;show g2.same (zh.refl _) λp m x z=>by rw[upd_ne<|λy=>aX ne h o q (by rw[<- y];show m)];show z
 have eS:JE (upd H a<|.ins C dx<|OH f u ws) (.o c<|.ins C<|fs++[(f,fl)]) a=JE H (.o c<|.ins C fs) a++iI H fl u:=eF;refine⟨⟨‹s.er.len›,λj d' h=>?_,λj v h o=>?_,λj k v O b b' ne h1 o1 h2 o2 q1 U=>?_⟩,⟨λb x e=>?_,s.bs.gg,λb x e=>?_,s.bs.fr⟩,λj v b h o q=>?_⟩
 .rcases zj h with⟨rfl,e,_⟩|⟨J,h⟩
  .cases e
  .show s.er.val j d' h
 .rcases zj h with⟨rfl,e,_⟩|⟨J,h⟩
  .subst e;show⟨a,I,⟨⟨A'.rep,A'.nd⟩,h2.2⟩,A'.fr⟩
  .obtain⟨b,g1,_,g3⟩:=s.er.slot j v h o;have q:=all J h o g1;show⟨b,g1,q.1,by rw[q.2];show g3⟩
 .have new:∀{k:Nat}{O:Sl}{b' p:Addr},k≠i->ρ[k]?>O->O.isObj=true->σ[k]?>(some<|.ref b')->p∈JE H (.o c<|.ins C fs) a++iI H fl u->p∉JE H O b':=λ{k O b' p} nk h o q m=>by
   rcases nA.mp m with m|m
   .show s.er.sep i k _ O a b' (Ne.symm nk) S rfl h o I q p m
   .show(hf p m).2.2 k O b' h o q
  rcases zj h1 with⟨ej,e,_⟩|⟨J,Z⟩
  .subst ej;subst e;rw[I]at q1;cases q1;rcases zj h2 with⟨ek,_,_⟩|⟨hk,Y⟩
   .show absurd ek.symm ne
   .rw[eS,(all hk Y o2 U).2]
    showλp m=>new hk Y o2 U m
  .rcases zj h2 with⟨ek,e,_⟩|⟨hk,Y⟩
   .subst ek;subst e;rw[I]at U;cases U;rw[eS,(all J Z (Sl.obj_of_own o1) q1).2]
    showλp m z=>new J Z (Sl.obj_of_own o1) q1 z m
   .rw[(all J Z (Sl.obj_of_own o1) q1).2,(all hk Y o2 U).2];show s.er.sep j k v O b b' ne Z o1 Y o2 q1 U
 .rw[upd_ne (λz=>by rw[z,hG]at e;cases e)];show s.bs.gh b x e
 .rw[upd_ne (λz=>by rw[z,s.ow i _ a S rfl I]at e;cases e)];show s.bs.hh b x e
 .rcases zj h with⟨rfl,e,_⟩|⟨J,h⟩
  .subst e;rw[I]at q;cases q;rw[eS];intro p m;rcases nA.mp m with m|m
   .show s.ows j _ a S rfl I p m
   .show(hf p m).2.1
  .rw[(all J h (Sl.obj_of_own o) q).2];show s.ows j v b h o q
end
section
variable {X:Cx}{o value:Expr}{pos pos':Pos}{C:Addr}{f:Str}{fv:dC}{fl:dD}
noncomputable def ZN(C:Addr)(i:Nat)(f:Str)(x:Fl)(ρ:lB):Option Out:=match ρ[i]? with
 |some (.o c<|.ins C' fs)=>if C'=C/\(fs.lookup f).isNone=true/\fs.length<900 then some (.nx<|ρ.set i<|.o c<|.ins C<|fs++[(f,x)]) else none
 |_=>none
theorem Pb{ρ:lB}(h:ZN C i f x ρ>out):∃c fs,ρ[i]?>(.o c<|.ins C fs)/\fs.lookup f=none/\fs.length<900/\out=.nx (ρ.set i<|.o c<|.ins C<|fs++[(f,x)]):=by
 unfold ZN at h;split at h
 .rename_i c j fs q;split at h
  .rename_i hh;obtain⟨rfl,h2,h3⟩:=hh;cases h;show⟨c,fs,q,‹h2›,h3,rfl⟩
  .cases h
 .cases h
theorem zKz(i:Nat)(c:xJ X.K C)(n:qR X.K C f)(ho:PE X o (RG i))(hv:SF X value fl)(hs:PK X value (some<|.Attribute o f pos') pos:=by rfl):
  SS X (.Assign [.Attribute o f pos'] value pos) (λρ=>(fl ρ).bind λxs=>ZN C i f (.f<|.l xs) ρ):=
 yg (Ra ho hv hs) λE σ H=>by
  rintro⟨G0,H0,G,ρ,out,st,I,k⟩;obtain⟨xs,e1,I⟩:=aA.mp I;obtain⟨c',fs,S,hl,O,rfl⟩:=Pb I;refine⟨G,ρ,xs,st.bs.gh,st.er,e1,λb vs G' H' t h1 h2 h3 r=>?_⟩;have SC:=st.step t;obtain⟨a,q1,q2,q3⟩:=SC.er.slot i _ S rfl;obtain⟨dx,ws,Z,z2,z3,z4,z5⟩:=q2.1.1;refine⟨_,q1,a,C,dx,ws,rfl,Z,c,n,01,k σ G' _<|SC.addL (fl:=.f<|.l xs) (u:=.ref b) S q1 Z hl ⟨b,rfl,vs,h3,r⟩ (by simp[iI,OF]) λp m=>?_⟩;have:p=b:=by simpa[iI,OF] using m
  subst this;refine⟨h2,st.bs.hh.free h1,λj v b' J U Y m=>?_⟩;rw[st.er.fp t.h J U Y]at m;obtain⟨⟨x,e⟩,_⟩:=st.er.there J U Y m;rw[h1]at e;cases e
theorem zQD(i:Nat)(c:xJ X.K C)(n:qR X.K C f)(ho:PE X o (RG i))(hs:PK X (.Dict [] [] p1) (some<|.Attribute o f pos') pos:=by rfl):
  SS X (.Assign [.Attribute o f pos'] (.Dict [] [] p1) pos) (λρ=>ZN C i f (.f<|.tl []) ρ):=
 yg (Ra ho zPc hs) λE σ H=>by
  rintro⟨G0,H0,G,ρ,out,st,ef,k⟩;obtain⟨c',fs,S,hl,O,rfl⟩:=Pb ef;intro b hb;have t:zf G H G (upd H b<|.dT []):=zf.newH st.bs.gh hb;have SC:=st.step t;obtain⟨a,q1,q2,q3⟩:=SC.er.slot i _ S rfl;obtain⟨dx,ws,Z,z2,z3,z4,z5⟩:=q2.1.1;have I:iI (upd H b<|.dT []) (.f<|.tl []) (.ref b)=[b]:=by dsimp[iI,OF];rw[zL];rfl
  refine⟨_,q1,a,C,dx,ws,rfl,Z,c,n,01,k σ G _<|SC.addL (fl:=.f<|.tl []) (u:=.ref b) S q1 Z hl ⟨b,rfl,[],zL,rfl,rfl⟩ (by rw[I];simp) λp m=>?_⟩;rw[I]at m;have:p=b:=‹m›
  subst this;refine⟨st.bs.gh.free hb,st.bs.hh.free hb,λj v b' J U Y m=>?_⟩;rw[st.er.fp t.h J U Y]at m;obtain⟨⟨x,e⟩,_⟩:=st.er.there J U Y m;rw[hb]at e;cases e
end
section
variable {X:Cx}{o:Expr}{es:List Expr}{pos p pos':Pos}{fl:dD}{k n i:Nat}{F:Ob->List D->Option D}{F':Ob->List D->Option Ob}{x:Str}
end
section
variable {X:Cx}{κ:Nat->Addr}{e o:Expr}{es:List Expr}{pos p JB pos':Pos}{fl:dD}{k n i:Nat}{f:List D->Option (Except Nat D)}{x y:Str}{C fa:Addr}{F:Ob->List D->Option Ob}
theorem zV3:vO (GK X.prog X.w) X E0:=λpins σ H s e s' I h=>by
 obtain⟨x,T,C,H',_,_,_,_,_,_,_,_,_,_,z⟩:=h;show z.elim
noncomputable def A1:Except Nat D->Option D
 |.ok d=>some d
 |.error _=>none
theorem zK0(h:dW X.prog X.w X.K X.mg X.base κ k x n f)(hr:IF k X.A)(S:X.env.kindOf x>.globalImplicit)(U:(e::es).length=n)(ha:SA X (e::es) fl)(I:BM x:=by decide)
  (he:oG X e es:=by rfl) (z:WH X pos es:=by rfl) :
  SE X (.Call (.Name x p) (e::es) [] pos) (λρ=>((fl ρ).bind f).bind A1):=
 WF (Qj h zV3 hr S U ha I he z) λσ H Q=>by
  rintro⟨G,ρ,d,s,er,O,kk⟩;obtain⟨r,J,j⟩:=aA.mp O;refine⟨G,ρ,r,s,er,J,?_⟩
  cases r with
  |ok d'=>cases j;show kk
  |error c=>cases j
end
section
variable {X:Cx}{e:Expr}{pos:Pos}{f:dC}
end
section
variable {X:Cx}{o:Expr}{es:List Expr}{pos p pos' JB:Pos}{fl:dD}{k n i:Nat}{F:Ob->List D->Option (D×Ob)}{x y:Str}
end
section
variable {X:Cx}{e:Expr}{pos:Pos}{fl:dD}
noncomputable def vT(fl:dD):aC:=λρ=>(fl ρ).map λxs=>.ro<|.l xs
theorem Ql(he:SF X e fl):SS X (.Return (some e) pos) (vT fl):=yg (Y5 he) λQ σ H=>by
 rintro⟨G0,H0,G,ρ,o,st,z,k⟩;obtain⟨xs,j,rfl⟩:=cA.mp z
 show⟨G,ρ,xs,st.bs.gh,st.er,j,λa vs G' H' t h1 h2 h3 r=>k a G' H' (st.bs.step t) ⟨vs,h3,r⟩ λc m=>by
  cases jA.mp m;show⟨h2,st.bs.hh.free h1⟩⟩
end
def nV(K:Fg)(f:Ob->List D->Option (List D))(n:Nat):Sp:=λvs H Q _=>∃G x a ds ws xs,vs=.ref a::ws/\zh G H/\At K G H x a/\HA K G ds ws/\ds.length+1=n/\f x ds>xs /\
 ∀b us G' H',zf G H G' H'->H b=none->G' b=none->H' b>.lst us->HA K G' xs us->Q (.ref b) H'
noncomputable def MX:Out->Option (List D)
 |.ro (.l xs)=>some xs
 |_=>none
def zV4(N:List Str)(F:aC)(a:Addr)(x:Ob)(ds:List D):Option (List D):=(F<|(.b a x::ds.map Sl.v)++pA (N.length-(ds.length+1)) .un).bind MX
theorem zTS{P:Program}{w:World}{K:Fg}{mg:gF}{base:Heap}{x qual:Str}{st:Stmt}{fa:Addr}{fd:FuncData}{N ps:List Str}{k:Nat}{F:aC}{f:Ob->List D->Option (List D)}
  (U:nN K x qual st fa fd) (S:zU N ps (zI st))
  (gE:∀(I:Value)(A:Around)(outer:List Env)(s:Shared)(H:Hp),IF k (A.deeper<|envOfC qual (zI st) s.heap.objs.size fa I)->QJ (QL EI P w K mg base N qual (zI st) fa I A outer s H E0).nox (yF st) F)
  (hf:∀a y ds d,ds.length+1=ps.length->f y ds>d->zV4 N F a y ds>d):KI P w K mg base EI (k+1) fa fd ps (nV K f ps.length):=by
 refine U.ok S (λvs H Q E h=>?_) (λI A outer s H vs Q E hr h=>?_)
 .obtain⟨G,y,a,ds,ws,d,rfl,_,_,r,O,_⟩:=h;rw[kA,<- r.length,O]
 .obtain⟨G,y,a,ds,ws,d,rfl,sm,J,r,O,ef,kk⟩:=h;have h1:QJ (QL EI P w K mg base N qual (zI st) fa I A outer s H E).nox (yF st) F:=gE I A outer s H hr;refine⟨_,h1,?_⟩;obtain⟨o,Z,j⟩:=aA.mp<|hf a y ds d O ef;have vU:Er K G H (.b a y::ds.map Sl.v) ((V.ref a::ws).map some):=Ba rfl ⟨⟨J.rep,J.nd⟩,rfl⟩ J.fr r;have er:=vU.app (N.length-(ds.length+1)) (pA (N.length-(ds.length+1)) none) (by simp)
  have er:Er K G H ((.b a y::ds.map Sl.v)++pA (N.length-(ds.length+1)) .un) (L2.fM N (.ref a::ws)):=by
   rw[B5,kA,<- r.length];show er
  have Y:∀(i:Nat)(u:Sl),((.b a y::ds.map Sl.v)++pA (N.length-(ds.length+1)) Sl.un)[i]?>u->u.isOwn=true->False:=λi u h1 h2=>by
   have hm:=xA h1;rcases nA.mp hm with m|m
   .rcases lA.mp m with z|m
    .subst z;cases h2
    .obtain⟨d',_,rfl⟩:=LA.mp m;cases h2
   .rw[(FE.mp m).2]at h2;cases h2
  refine⟨G,H,G,_,o,⟨er,⟨sm,zh.refl _,zh.refl _,λb o e n=>by rw[e]at n;cases n⟩,λi u b h1 h2 h3=>(Y i u h1 h2).elim⟩,Z,?_⟩
  cases o with
  |ro s'=>
   cases s' with
   |l xs=>
    cases j
    showλb G' H' bs r' n=>let ⟨us,q1,q2⟩:=r';kk b us G' H' ⟨bs.gg,bs.hh,bs.gh,bs.fr⟩ (n b<|jA.mpr rfl).2 (n b<|jA.mpr rfl).1 q1 q2
   |_=>cases j
  |rt d'=>cases j
  |nx ρ=>cases j
  |bk ρ=>cases j
  |ct ρ=>cases j
  |rm d ρ=>cases j
structure Te(P:Program)(w:World)(K:Fg)(mg:gF)(base:Heap)(C:Addr)(k:Nat)(m:Str)(n:Nat)(F:Ob->List D->Option (List D)):Prop where
 ex:∃f fd ps,KI P w K mg base EI k f fd ps (nV K F n)/\fW K C m f/\L2.OL K fd ps []
def Bg(C:Addr)(m:Str)(i:Nat)(fl:dD)(F:Ob->List D->Option (List D)):dD:=λρ=>(dP ρ i).bind λx=>if DM C m x=true then (fl ρ).bind λds=>F x ds else none
section
variable {X:Cx}{o e:Expr}{es:List Expr}{pos apos:Pos}{C:Addr}{m:Str}{i k n:Nat}{F:Ob->List D->Option (List D)}{fl:dD}
theorem zTU(i:Nat)(h:Te X.prog X.w X.K X.mg X.base C k m n F)(c:xJ X.K C)(hr:IF k X.A)(Y:PE X o (RG i))(ha:SA X (e::es) fl)(U:(e::es).length+1=n)(jL:oG X e es:=by rfl)(I:WH X pos es:=by rfl) (Z:eval (.Call (.Attribute o m apos) (e::es) [] pos) X.env=(do
   let ov <- eval o X.env
   standAt apos.atName
   let (f,first) <- holding [ov] (getMethod ov m pl)
   callWith pos f first (backTo pos<|starEach (e::es) X.env) (backToKw pos<|keywordEach [] X.env)):=by rfl) :
  SF X (.Call (.Attribute o m apos) (e::es) [] pos) (Bg C m i fl F):=by
 obtain⟨f,fd,ps,J,hm,hb⟩:=h.ex;refine WF (Qd (pl:=pl) (dvs:=[]) (ds:=[]) (E:=E0) Y c hm J hr hb .nil QX ha.pa jL I Z) λσ H Q zz=>?_
 obtain⟨G,ρ,d,s,er,j,kk⟩:=zz;obtain⟨x,S,j⟩:=aA.mp j;split at j
 .rename_i hx;obtain⟨ds,z,e3⟩:=aA.mp j;obtain⟨a,q1,A⟩:=nX er S;obtain⟨dx,ws,q2,q3⟩:=Bj A hx;refine⟨_,q1,a,dx,ws,rfl,q2,q3,G,ρ,ds,s,er,z,λvs G' H' t r=>?_⟩;change nV X.K F n (V.ref a::(vs++[])) H' Q E0;rw[oB];show⟨G',x,a,ds,vs,d,rfl,t.s,A.step t,r,by rw[ha.len _ _ z];show U,e3,λb us O H2 t2 h1 h2 h3 r2=>kk b us O H2 (t.trans t2) (t.h.free h1) h2 h3 r2⟩
 .cases j
end
section
variable {X:Cx}{o:Expr}{es:List Expr}{pos p np JB:Pos}{fl:dD}{k n:Nat}{F:Ob->List D->Option (D×Ob)}{x:Str}{A B:List Stmt}{FA FB:aC}
end
def BO{α:Type}(f:Addr->Option α):Option α:=by
 classical show if h:∃r,∀a,f a>r then some h.choose else none
theorem ZO{α:Type}{f:Addr->Option α}{r:α}(h:∀a,f a>r):BO f>r:=by
 have e:∃r,∀a,f a>r:=⟨r,h⟩
 unfold BO;rw[dif_pos e];have:=e.choose_spec 0;rw[h 0]at this;show this.symm
theorem NR{α:Type}{f:Addr->Option α}{r:α}(h:BO f>r):∀a,f a>r:=by
 unfold BO at h;split at h
 .rename_i e;cases h;show e.choose_spec
 .cases h
noncomputable def E8(i:Nat):iF:=λρ=>match ρ[i]? with
 |some (.v .non)=>some true
 |some (.o _ _)=>some false
 |_=>none
noncomputable def Rv(i:Nat):aC:=λρ=>match ρ[i]? with
 |some (.v d)=>some<|.rt d
 |some (.o c x)=>some<|.ro<|.o c x
 |_=>none
def zV5(N:List Str)(F:lB->Option fG)(a:Addr)(x:Ob)(ds:List D):Option (Except Nat Ob):=(F<|(.o (some a) x::ds.map Sl.v)++pA (N.length-(ds.length+1)) .un).bind λo=>match o with
 |.o (.nx ρ)=>(fT a ρ).map .ok
 |.ex c=>some<|.error c
 |_=>none
noncomputable def AX(C:Addr)(i:Nat)(fl:dD)(F:Ob->List D->Option (Except Nat Ob))(cc:Nat)(Fh:aC):aC:=λρ=>(fl ρ).bind λds=>(F (.ins C []) ds).bind λr=>match r with
 |.ok x=>some<|.nx<|ρ.set i<|.o none x
 |.error c=>if c=cc then Fh ρ else none
noncomputable def NX(g:D->lB->Option lB)(f:lB->Option (Except Nat D)):List D->lB->Option (Except Nat<|List D)
 | [],_=>some<|.ok []
 |d::ds,ρ=>(g d ρ).bind λρ1=>(f ρ1).bind λr=>match r with
  |.ok y=>(NX g f ds ρ).map λq=>match q with
   |.ok ys=>.ok (y::ys)
   |.error c=>.error c
  |.error c=>some<|.error c
def BX(m:Nat)(fl:dD)(g:D->lB->Option lB)(f:lB->Option (Except Nat D)):lB->Option (Except Nat<|List D):=λρ=>(fl ρ).bind λds=>if ds.length<=1000000 then NX g f ds (ρ++pA m .un) else none
def x6(C:Addr)(i:Nat)(f:Str)(q:lB->Option (Except Nat<|List D)):lB->Option fG:=λρ=>(q ρ).bind λr=>match r with
 |.ok xs=>(ZN C i f (.v<|.lst xs) ρ).map .o
 |.error c=>some<|.ex c
section
variable {X:Cx}{e o:Expr}{pos:Pos}{st:Stmt}
theorem zQE:SS X st (λ_=>none):=yg zPS λE σ H=>by rintro⟨_,_,_,_,_,_,j,_⟩;cases j
theorem zRc(i:Nat){j}(J:PE X o (RG i))(hm:behindInMarks .Is (.Constant .none j np)=false:=by rfl):SB X (.Compare o [.Is] [.Constant .none j np] pos) (E8 i):=
 UV (Qb zVD J DX hm) λσ H Q=>by
  rintro⟨G,ρ,b,s,er,z,k⟩;unfold E8 at z;split at z
  .rename_i q;cases z;obtain⟨v,q1,I⟩:=er.val i .non q;have I:=bQ.mp I;subst I;show⟨_,q1,G,ρ,.non,s,er,rfl,λv G' H' t r=>⟨bQ.mp r,true,by simp,k G' H' t⟩⟩
  .rename_i c x q;cases z;obtain⟨a,q1,_⟩:=er.slot i _ q rfl;show⟨_,q1,G,ρ,.non,s,er,rfl,λv G' H' t r=>⟨bQ.mp r,false,by simp,k G' H' t⟩⟩
  .cases z
theorem zQF(i:Nat)(he:PE X e (RG i)):SS X (.Return (some e) pos) (Rv i):=yg (Y5 he) λQ σ H=>by
 rintro⟨G0,H0,G,ρ,o,st,j,k⟩;unfold Rv at j;split at j
 .rename_i d q;cases j;obtain⟨v,q1,z⟩:=st.er.val i d q;show⟨v,q1,k v G H st.bs z⟩
 .rename_i c x q;cases j;obtain⟨a,q1,z,I⟩:=st.er.slot i _ q rfl;show⟨_,q1,k a G H st.bs z λc m=>⟨I c m,st.ows i _ a q rfl q1 c m⟩⟩
 .cases j
end
section
variable {P:Program}{w:World}{K:Fg}{mg:gF}{base:Heap}{N:List Str}{qual:Str}{scope:EF}{f:Addr}{cd:Value}{A:Around}{outer:List Env}{s₀:Shared}{H₀:Hp}{E:XK}
theorem wt:PassesOwn (model (YD P w K mg base N qual scope f cd A outer s₀ H₀ E).prog (YD P w K mg base N qual scope f cd A outer s₀ H₀ E).w) (YD P w K mg base N qual scope f cd A outer s₀ H₀ E).A (YD P w K mg base N qual scope f cd A outer s₀ H₀ E).env (YD P w K mg base N qual scope f cd A outer s₀ H₀ E).xe:=PassesOwn.leaving
end
theorem zGZ{env j:Env}(h:env.frame=j.frame):noteFrame e env=noteFrame e j:=by
 unfold noteFrame PySem.frameOf;rw[h]
section
variable {M:Model}{A:Around}{E:vD}{s:Shared}{bs:Heap}{env:Env}{outer:List Env}{L e:Addr}{cls a0 fl:Value}
structure lS(bs:Heap)(l:List Env)(e:Addr)(cls a0 fl:Value)(h:Heap):Prop where
 st:bs.StaysIn h
 no:bs.get? e=none
 ff:h.FunFrames bs l
 tr:h.TracedAtW bs e cls a0 fl
theorem lS.mark{h:Heap}(x:lS bs l e cls a0 fl h):∃j vs T O ts,h.get? e>j/\(j.cls=cls/\vs[0]?>a0)/\j.data=.fields vs/\vs[1]?>.ref T/\T≠e/\h.get? T>O/\O.data=.fields ts/\3<ts.size/\ts[3]?>fl /\
  ∀u,lS bs l e cls a0 u (h.update T (XG (·.setIfInBounds 3 u)))/\∀b o,h.get? b>o->(∀q,o.data≠.fields q)->(h.update T (XG (·.setIfInBounds 3 u))).get? b>o:=by
 obtain⟨j,vs,T,O,ts,g1,g2,g3,Y,Z,S,U,J,g9⟩:=x.tr;have sz:3<ts.size:=(QK.mp g9).1;refine⟨j,vs,T,O,ts,g1,g2,g3,Y,S,U,J,sz,g9,λu=>?_⟩;have I:∀b,b≠T->(h.update T (XG (·.setIfInBounds 3 u))).get? b=h.get? b:=λb nb=>NE _ _ λz=>nb z.symm
 have nT:∀b o,h.get? b>o->(∀q,o.data≠.fields q)->b≠T:=λb o e n z=>by
  subst z;rw[U]at e;cases e;show n _ J
 refine⟨⟨λb o e=>?_,x.no,x.ff.of_keeps λb o e n=>⟨o,by rw[I b<|nT b o e n];show e,rfl⟩,j,vs,T,_,_,?_,g2,g3,Y,Z,S,dF _ U<|jO<|kG J _,kG J _,by simp[sz]⟩,λb o e n=>by rw[I b<|nT b o e n];show e⟩
 .rw[I b λz=>by subst z;rw[Z]at e;cases e];show x.st b o e
 .rw[I e λz=>S z.symm];show g1
theorem zJy{h:Heap}(x:h.FunFrames bs (l::outer)):h.FunFrames bs outer:=by
 obtain⟨_,_,k⟩:=x;show k
theorem wj{h h':Heap}:∀{l:List Env},(∀b o,b∈BH l->h.get? b>o->h'.get? b>o)->h.FunFrames bs l->h'.FunFrames bs l
 | [],_,_=>trivial
 |v::l,k,x=>by
  obtain⟨J,⟨j,o,z,S,U,Y⟩,O⟩:=x
  show⟨J,⟨j,o,z,S,k j o (kB.mpr ⟨v,gA ..,z⟩) U,Y⟩,wj (λb o m=>k b o (by
   obtain⟨u,I,hf⟩:=kB.mp m;show kB.mpr ⟨u,bA _ I,hf⟩)) O⟩
theorem zNz(U:A.frames>(env::outer))(hf:env.frame>L)(x:lS bs (env::outer) e cls a0 fl s.heap){Q:Unit->Shared->Prop}
  (hQ:∀h',wH bs outer e cls a0 h'->s.heap.UpToSlots h'->Q () { s with heap:=h' }):wpAny M A (leaving env<|.ref e) Q E s:=by
 have land:∀(h1:Heap)(j:Value),lS bs (env::outer) e cls a0 j h1->s.heap.UpToSlots h1->wpAny M A (setFlight (.ref e) none) Q E { s with heap:=h1 }:=λh1 j y up=>
  wpAny_setFlight_noneW (s:={ s with heap:=h1 }) y.st y.ff y.tr λh' k1 k2 k3 k4=>hQ h' ⟨k1,y.no,zJy k2,k3⟩ (up.trans λb o z n=>⟨o.slots,k4 b o z n⟩)
 obtain⟨oe,vs,T,oT,ts,g1,g2,g3,I,Y,J,O,sz,Z,mk⟩:=x.mark;unfold leaving;refine wpAny_bind ?_;unfold noteFrame;dsimp[hf];refine wpAny_bind<|wpAny_field g1 g3 I ?_;rw[if_pos<|by simp];refine wpAny_bind<|wpAny_field J O Z ?_;by_cases c:(fl==rawInt L)=true
 .rw[if_pos c];show wpAny_pure<|land s.heap fl x<|jY _
 .rw[if_neg c];obtain⟨y,keep⟩:=mk .none;refine wpAny_bind<|wpAny_setField J O sz ?_;have ge:(s.heap.update T (XG (·.setIfInBounds 3 .none))).get? e>oe:=by rw[NE _ _ Y];show g1
  refine wpAny_entryW (s:={ s with heap:=s.heap.update T (XG (·.setIfInBounds 3 .none)) }) U y.ff hf ge y.st y.no g3 (QK.mp I).1 g2.2 λh' nt=>?_
  obtain⟨n1,n2,S,n4⟩:=nt;rw[g2.1]at S;show land h' _ ⟨n1,y.no,n2,S⟩ λb o z n=>n4 b o (keep b o z n) n
theorem zQH{α:Type}(x:lS bs l e cls a0 fl s.heap){Q:α->Shared->Prop}(O:∀h' z,lS bs l e cls a0 z h'->(∀b o,s.heap.get? b>o->(∀q,o.data≠.fields q)->h'.get? b>o)->E (.ref e) { s with heap:=h' }):wpAny M A (HW Kc (.ref e) GI:Sem α) Q E s:=by
 obtain⟨Z,vs,T,Y,ts,g1,g2,g3,j,S,I,J,sz,U,mk⟩:=x.mark;unfold HW;refine wpAny_bind<|wpAny_field g1 g3 j ?_;rw[if_neg<|by simp];refine wpAny_bind ?_;unfold setFlight;refine wpAny_bind<|wpAny_field g1 g3 j ?_;rw[if_pos<|by simp];refine wpAny_setField I J sz<|wpAny_throw ?_;obtain⟨y,keep⟩:=mk (GI.frame.elim .none λf=>rawInt f);show O _ _ y keep
end
noncomputable def aS(g:D->lB->Option lB)(p:iF)(f:lB->Option (Except Nat D)):List D->lB->Option (Except Nat<|List D)
 | [],_=>some<|.ok []
 |d::ds,ρ=>(g d ρ).bind λρ1=>(p ρ1).bind λb=>if b=true then (f ρ1).bind λr=>match r with
   |.ok y=>(aS g p f ds ρ).map λq=>match q with
    |.ok ys=>.ok (y::ys)
    |.error c=>.error c
   |.error c=>some<|.error c
  else aS g p f ds ρ
theorem zK2{g:D->lB->Option lB}{f:lB->Option (Except Nat D)}:∀ds:List D,aS g (λ_=>some true) f ds ρ=NX g f ds ρ
 | []=>rfl
 |d::ds=>by
  rw[aS,NX,zK2 ds];rfl
theorem Pc{g:D->lB->Option lB}{p:iF}{f:dC}:∀{ds ys:List D},zR g p f ds ρ>ys->aS g p (λρ=>(f ρ).map .ok) ds ρ>.ok ys
 | [],_,h=>by cases h;rfl
 |d::ds,ys,h=>by
  obtain⟨ρ1,j,h⟩:=aA.mp h;obtain⟨b,z,h⟩:=aA.mp h;rw[aS,j,dA,z,dA]
  cases b with
  |false=>rw[if_neg cB]at h ⊢;show Pc h
  |true=>
   rw[if_pos rfl]at h ⊢;obtain⟨x,e3,h⟩:=aA.mp h;obtain⟨zs,I,rfl⟩:=cA.mp h;rw[e3,wA,dA];dsimp[Pc I,wA]
noncomputable def BR(zs:List D):Except Nat (List D)->Except Nat (List D)
 |.ok ys=>.ok<|zs++ys
 |.error c=>.error c
section
variable {X:Cx}{tg iter elt:Expr}{scope:EF}{pos:Pos}{nm:List Str}{fl:dD}{gd:D->lB->Option lB}{f:lB->Option (Except Nat D)}{κ:Nat->Addr}{W:XK}
structure Cw(X:Cx)(pins:rE)(σ:L2.St)(H:Hp)(s:Shared)(C:Addr):Prop where
 inv:Inv X pins σ H s
 ns:∃m,s.heap.Ns C m
 fr:H C=none
 ne:C≠X.env.locals
 sz:X.s₀.heap.objs.size<=C
 cl:∀x c,X.env.cells.lookup x>c->c≠C
 pn:∀p∈X.pn++pins,p.1≠C
structure Co(X Y:Cx)(pins:rE)(σ:L2.St)(H:Hp)(m:Nat)(fp:List Addr)(tn:Nat->Heap->Prop)(c C:Addr)(s:Shared):Prop where
 nD:H c=none
 inv:Inv Y [] (σ++pA m none) (upd H c<|.lst []) s
 tn:tn 0 s.heap
 fr:∀b∈fp,upd H c (.lst []) b=none
 st:∀(H':Hp),(∀b∈fp,H' b=none)->∀b∈fp,SH Y [] H' b
 out:∀cI uC H' s',Inv Y cI uC H' s'->Cw X pins σ H' s' C
theorem Cw.turned{X:Cx}(o:Cw X pins σ H s C)(e:cE C s.heap h'):Inv X pins σ H { s with heap:=h' }:=o.inv.turned (t':=s.toks) (λb _ hb q=>e.extBut b _ hb q) o.fr o.ne (.inr o.sz) o.cl o.pn
theorem zIs{s:Shared}{tn:Nat->Heap->Prop}{E:vD}{RR:Value->Addr->jJ->Shared->Prop}(hk:scope.kind=.function)(hok:qU X.N nm scope.names X.env.scope.names=true)(I:Inv X pins σ H s)(T:eP X.prog X.w X.K tg J fp it tn)(h0:tn 0 s.heap)(S:∀b∈fp,SH X pins H b)
  (h:∀c C j Y,Co X (zp X nm scope C j (upd H c<|.lst []) fp) pins σ H nm.length fp tn c C Y->xE (model X.prog X.w) X.A (.compLoop (.ListComp elt [⟨tg,iter,ifs,0⟩] scope pos) 0 (.ref it) (.ref c)<|compEnvC scope (CJ scope.names X.env.cells) C X.env) (RR (.ref c) C) Y) :
  wpAny (model X.prog X.w) X.A (newList []) (λacc j=>wpAny (model X.prog X.w) X.A (newFunctionEnv scope X.env.globals (CJ scope.names X.env.cells) [] X.env.qual none .none<|some X.env) (λGI Y=>
   xE (model X.prog X.w) X.A (.compStart (.ListComp elt [⟨tg,iter,ifs,0⟩] scope pos) 0 (.ref it) acc { GI with scope:=relabel scope X.env }) (RR acc GI.locals) Y) E j) E s:=by
 have CP:∀b∈fp,b<s.heap.objs.size:=λb hb=>by
  obtain⟨o,e,_⟩:=T.obj 0 s.heap h0 b hb;show GA e
 refine wpAny_newObj_type ?_;have O:Inv X pins σ (upd H s.heap.objs.size<|.lst []) { s with heap:=s.heap.push { cls:=.type "list",data:=.seq ([]:List Value).toArray } }:=I.lnew (t':=s.toks) (ys:=[]) (its:=[]) .nil<|EB _;have nD:H s.heap.objs.size=none:=I.fresh;have hsz:=OE s.heap { cls:=.type "list",data:=.seq ([]:List Value).toArray };have VN:=T.keep 0 s.heap (s.heap.push { cls:=.type "list",data:=.seq ([]:List Value).toArray }) h0 λb hb o e=>oA _ e
 generalize Z:({ s with heap:=s.heap.push { cls:=.type "list",data:=.seq ([]:List Value).toArray } }:Shared)=j at O|-;have Hb:∀b∈fp,b<j.heap.objs.size:=λb hb=>by rw[<- Z];show Nat.lt_of_lt_of_eq (JJ<|CP b hb) hsz.symm
 replace VN:tn 0 j.heap:=by rw[<- Z];show VN
 have JZ:∀b∈fp,SH X pins (upd H s.heap.objs.size<|.lst []) b:=λb hb=>⟨by rw[upd_ne<|OA<|CP b hb];show(S b hb).1,(S b hb).2⟩
 clear hsz Z CP;generalize s.heap.objs.size=c at *;refine wpAny_newFunctionEnv (λy hy=>(yE hok hy).1) (by intro y hy;simp at hy) (λtG TU XU=>?_) hk;have keep:∀b o,j.heap.get? b>o->tG.get? b>o:=λb o e=>XU.extBut b o (OA<|GA e)<|oA _ e
 have U:=zLv (nm:=nm) (scope:=scope) (tk:=j.toks+([]:List (Str×Value)).length) O hk hok JZ Hb TU keep;have P8:tn 0 tG:=T.keep 0 _ _ VN λb hb o e=>keep b o e
 have loop:=h c j.heap.objs.size j { j with heap:=tG,toks:=j.toks+([]:List (Str×Value)).length } ⟨nD,U,P8,λb hb=>(JZ b hb).1,λH' hn b hb=>⟨hn b hb,(U.ok.exf b hb).1,λz=>U.ok.exfs b hb z,.inl hb,(U.ok.exf b hb).2,λp hp=>(by simp[zp]at hp)⟩,λcI uC H' s' J=>
  ⟨O.call' (ch:=fp) J.os J.base J.hok J.bare λb hb=>⟨(S b hb).2.2.2.1,(S b hb).2.1,(S b hb).2.2.2.2.1,(S b hb).2.2.2.2.2⟩,J.loc.imp λ_ h=>h.1,J.free,KH O.lt,O.sz,λx c e=>OA (by obtain⟨v,q⟩:=O.cell x c e;show q.lt),λp hp=>OA<|GA (O.pin p hp).1⟩⟩
 show codeAny_compStart_list loop<|T.self _ 0 _ _ _ P8 loop
structure LX(Y:Cx)(G H:Hp)(gd:D->lB->Option lB)(p:iF)(f:lB->Option (Except Nat D))(ds:List D)(r:Except Nat (List D))(c:Addr)(tn:Nat->Heap->Prop)(fp:List Addr)(R:lB)(i:Nat)(σ:L2.St)(H1 G1:Hp)(zs:List D)(vs:List V)(rest:Except Nat (List D))(s:Shared):Prop where
 le:i<=ds.length
 inv:Inv Y [] σ H1 s
 tn:tn i s.heap
 fr:∀b∈fp,H1 b=none
 t:zf G H G1 H1
 er:Er Y.K G1 H1 R σ
 nd:XH H1 R σ c
 gD:G1 c=none
 hD:H1 c>.lst vs
 rz:HA Y.K G1 zs vs
 lz:zs.length<=i
 ec:aS gd p f (ds.drop i) R>rest
 ey:r=BR zs rest
theorem zf.gD{G H G' H':Hp}{c:Addr}{o:HO}(t:zf G H G' H')(g:G c=none)(h:H c>o):G' c=none:=by
 cases q:G' c with
 |none=>rfl
 |some o'=>
  have:=t.f _ o' q g;rw[h]at this;cases this
theorem O0{Y:Cx}{G H:Hp}{r:Except Nat (List D)}{R:jJ->Shared->Prop}{p:iF}{s:Shared}{ds:List D}{tn:Nat->Heap->Prop}(hx:Y.xe=λ_ _=>False)(hc:Y.calm=true)(fJ:CM ρ.length gd)(hg:SG Y tg gd)(ht:bR Y ifs p)(he:∀EE,vO (GK Y.prog Y.w) (Y.wish EE) W->PE (Y.wish EE) elt (QS Y.K κ W f))(T:eP Y.prog Y.w Y.K tg J fp it tn)(rK:∀(H':Hp),(∀b∈fp,H' b=none)->∀b∈fp,SH Y [] H' b)(uG:YM Y.K G J ds)(hl:ds.length<=10000000)(nD:H c=none)
  (h0:LX Y G H gd p f ds r c tn fp (ρ++pA m .un) 0 σ H0 G [] [] r s)
  (hW:∀c,r=.error c->∀G' H',zf G H G' H'->W (.ref<|κ c) none H') (fin:∀zs,r=.ok zs->∀S H' G' vs s',Inv Y [] S H' s'->zf G H G' H'->G' c=none->H' c>.lst vs->HA Y.K G' zs vs->R (.ok .next) s') (bad:∀cI S H' s' e CQ,Inv Y cI S H' s'->GK Y.prog Y.w Y.stack H' s' W e CQ->notedBy (model Y.prog Y.w) Y.A Y.env (λe s'=>R (.error e) s') e CQ) :
  xE (model Y.prog Y.w) Y.A (.compLoop (.ListComp elt [⟨tg,iter,ifs,0⟩] scope pos) 0 (.ref it) (.ref c) Y.env) R s:=by
 refine vg (λn s'=>∃i S H1 G1 zs vs rest,n=ds.length-i/\LX Y G H gd p f ds r c tn fp (ρ++pA m .un) i S H1 G1 zs vs rest s') ?_ ds.length ⟨0,_,_,_,_,_,_,rfl,h0⟩;rintro n s5 ⟨i,lM,H5,G5,zs,vs,rest,rfl,⟨hi,I5,MK,CU,t5,Wk,Ih,oZ,ES,NS,Xt,j,fR⟩⟩;by_cases EH:i<ds.length
 .have ed:ds.drop i=ds[i]::ds.drop (i+1):=cD EH;rw[ed]at j;obtain⟨LM,e6,j⟩:=aA.mp j;obtain⟨b6,e7,j⟩:=aA.mp j;refine wpAny_mono (T.item Y rfl rfl rfl hc i [] s5 lM H5 _ I5 (rK _ CU) MK<|uG.go i H5 (t5.g.trans t5.s) EH) (λr s6 zz=>?_) λ_ _ z=>z
  obtain⟨u,WU,h6⟩:=zz;subst WU;refine wpAny_mono h6 (λ_ s7 zz=>?_) λ_ _ z=>z
  obtain⟨x7,H7,I7,Jb,y7,rV,Fx⟩:=zz;obtain⟨G7,t7,r7⟩:=uG.yld i G5 H5 x7 H7 t5.g t5.s EH y7;have Do:=I7.pinned (rK _ Fx)<|T.obj _ _ rV;have Wl:=Wk.step t7;obtain⟨k1,k2,k3⟩:=fJ _ _ _ e6;have Ii:=Ih.grow Wk t7.h
  have Gx:=hg _ s7 lM H7 x7 u (λU H8=>H8=H7/\Er Y.K G7 H7 LM U/\XH H7 LM U c) Do Jb
   ⟨G7,qT H7 _ lM,G7,_,ds[i],LM,Wl.toSt t7.s,r7 _ (by simp[EH]),e6,λU OS=>⟨rfl,OS.er,zKo Wl Ii OS k3<|t7.h _ _ ES⟩⟩
  refine wpAny_mono Gx (λ_ s8 q9=>?_) λ_ _ z=>(by rw[hx]at z;show z.elim)
  obtain⟨U,H8,I8,e8,Et,M8⟩:=q9;subst e8
  have again:∀{G9 H9 s9 l7 kH nJ},Inv Y ([]++Z5 fp s7.heap) U H9 s9->zf G H G9 H9->Er Y.K G9 H9 LM U->XH H9 LM U c->G9 c=none->H9 c>.lst kH->HA Y.K G9 l7 kH->l7.length<=i+1->aS gd p f (ds.drop<|i+1) (ρ++pA m .un)>nJ->r=BR l7 nJ ->
    ∃k,k<ds.length-i/\∃i S H1 G1 zs vs rest,k=ds.length-i/\LX Y G H gd p f ds r c tn fp (ρ++pA m .un) i S H1 G1 zs vs rest s9:=λ{G9 H9 s9 l7 kH nJ} I9 t9 wU n9 g9 h9 r9 l9 c9 y9=>by
   refine⟨ds.length-(i+1),01,i+1,U,H9,G9,l7,kH,nJ,rfl,⟨EH,I9.unpinned,T.keep _ _ _ rV λb hb o e=>(I9.pin (b,o)<|EA _<|EA _<|hX hb e).1,λb hb=>?_,t9,wU.drop k1 k2,n9.drop k2,g9,h9,r9,l9,c9,y9⟩⟩;obtain⟨o,e,d⟩:=T.obj _ _ rV b hb;show(I9.pin (b,o)<|EA _<|EA _<|hX hb e).2.1
  refine zNM (X:=Y) hx ht I8 t7.s Et e7 λG9 H9 s9 I9 t9=>?_
  have tt:=(t5.trans t7).trans t9;have Q8:=t7.trans t9;have Wr:=Q8.gD oZ ES;have Ge:=Q8.h _ _ ES;have wU:=Et.step t9;have Yc:=M8.grow Et t9.h
  cases b6 with
  |false=>
   rw[if_neg cB]at j ⊢
   show again I9 tt wU Yc Wr Ge (HA.mono Q8.g _ _ NS) (ZQ Xt) j fR
  |true=>
  rw[if_pos rfl]at j ⊢;obtain⟨rr,sU,j⟩:=aA.mp j;have v8:=he (λe s'=>∃cI S Hs s0,Inv Y cI S Hs s0/\GK Y.prog Y.w Y.stack Hs s0 W e s') λcI S Hs s0 e s' J h=>⟨cI,S,Hs,s0,J.unwish,h⟩
  cases rr with
  |error c=>
   dsimp[DF]at j;have er':r=.error c:=by rw[fR,<- j];rfl
   refine wpAny_mono (v8 _ s9 U H9 (λ_ _=>False) (I9.wish _) ⟨G9,LM,_,t9.s,wU,sU,λG' H' t=>hW c er' G' H'<|tt.trans t⟩) (λuy s10 q9=>?_) λe s' z=>?_
   .obtain⟨_,_,_,_,z⟩:=q9;show z.elim
   .obtain⟨p',S,Hs,s0,J,z⟩:=z
    show bad p' S Hs s0 e s' J z
  |ok y=>
   obtain⟨nJ,Ek,j⟩:=cA.mp j;refine wpAny_mono (v8 _ s9 U H9 (λv H'=>∃G',zf G9 H9 G' H'/\Rep Y.K G' y v) (I9.wish _) ⟨G9,LM,_,t9.s,wU,sU,λv G' H' t r=>⟨G',t,r⟩⟩) (λuy s10 q9=>?_) λe s' z=>?_
   .obtain⟨vy,Dn,xY,Ja,Vc,WN,ry⟩:=q9;have xY:=xY.unwish;have uP:=WN.gD Wr Ge;have EU:=WN.h _ _ Ge;have wV:=tt.trans WN;have lv:vs.length=zs.length:=NS.length.symm
    have Gn:=jX (X:=Y) _ s10 U Dn (.ref c) [vy] (.ref c) [uy] (λ_ H'=>H'=upd Dn c (.lst<|vs++[vy])) xY rfl (.cons Ja .nil)
     ⟨c,vs,vy,rfl,rfl,EU,DA (by omega:vs.length<10000001)<|02,rfl⟩
    refine wpAny_mono Gn (λ_ s11 q9=>?_) λ_ _ z=>(by rw[hx]at z;show z.elim)
    obtain⟨_,H11,AY,_,tU⟩:=q9;subst tU;have cZ:=wU.step WN;have PP:=Yc.grow wU WN.h;show again AY ⟨wV.g,λb o e=>by rw[upd_ne<|yV e nD];show wV.h b o e,λb o e=>by rw[upd_ne (λz=>by rw[z,uP]at e;cases e)];show WN.s b o e,wV.f⟩ (cZ.updOther PP) (PP.upd cZ) uP zL ((HA.mono (Q8.trans WN).g _ _ NS).append<|HA.cons ry HA.nil) (by dsimp[IA,kA,KC];omega) Ek (by rw[fR,<- j];cases nJ<;>simp[BR])
   .obtain⟨p',S,Hs,s0,J,z⟩:=z;show bad p' S Hs s0 e s' J z
 .have e:i=ds.length:=01
  subst e;rw[dH]at j;cases j;dsimp[BR,oB]at fR;refine wpAny_mono (T.done Y rfl rfl rfl hc _ [] s5 lM H5 _ I5 (rK _ CU) MK<|uG.stop _ H5 (t5.g.trans t5.s)<|rA _) (λr s6 zz=>?_) λ_ _ z=>z
  obtain⟨WU,I6⟩:=zz;subst WU;show fin zs fR lM H5 G5 vs s6 I6 t5 oZ ES NS
theorem ww{p:iF}{s:Shared}{ds:List D}{tn:Nat->Heap->Prop}{E:vD}{RR:Value->Addr->jJ->Shared->Prop}(hc:X.calm=true)(hk:scope.kind=.function)(hok:qU X.N nm scope.names X.env.scope.names=true)(fJ:CM X.N.length gd)(hg:∀C j U ex,SG (zp X nm scope C j U ex) tg gd)(ht:∀C j U ex,bR (zp X nm scope C j U ex) ifs p)(he:∀(C:Addr)(j:Shared)(U:Hp)(ex:List Addr)(EE:vD),vO (GK X.prog X.w) ((zp X nm scope C j U ex).wish EE) W->PE ((zp X nm scope C j U ex).wish EE) elt (QS X.K κ W f))(hex:∀u o H',W u o H'->X.ex=[])(I:Inv X pins σ H s)(T:eP X.prog X.w X.K tg J fp it tn)(h0:tn 0 s.heap)(UO:∀b∈fp,SH X pins H b)(sm:zh G H)(er:Er X.K G H ρ σ)(uG:YM X.K G J ds)(hl:ds.length<=10000000)(UZ:aS gd p f ds (ρ++pA nm.length .un)>r)(hW:∀c,r=.error c->∀G' H',zf G H G' H'->W (.ref<|κ c) none H')
  (sZ:∀ys,r=.ok ys->∀c C s' H' G' vs,Cw X pins σ H' s' C->zf G H G' H'->H c=none->G' c=none->H' c>.lst vs->HA X.K G' ys vs->RR (.ref c) C (.ok .next) s')
  (Gf:∀acc C s' H' x S C0,Cw X pins σ H' s' C->wY X.stack x S (.ref C0) s'.heap->X.s₀.heap.get? x=none->X.s₀.heap.get? S=none->H' x=none->H' S=none->W (.ref C0) none H'->x≠C->S≠C->notedBy (model X.prog X.w) X.A (compEnvC scope (CJ scope.names X.env.cells) C X.env) (λe CQ=>RR acc C (.error e) CQ) (.ref x) s') :
  wpAny (model X.prog X.w) X.A (newList []) (λacc j=>wpAny (model X.prog X.w) X.A (newFunctionEnv scope X.env.globals (CJ scope.names X.env.cells) [] X.env.qual none .none<|some X.env) (λGI pI=>
   xE (model X.prog X.w) X.A (.compStart (.ListComp elt [⟨tg,iter,ifs,0⟩] scope pos) 0 (.ref it) acc { GI with scope:=relabel scope X.env }) (RR acc GI.locals) pI) E j) E s:=by
 have hr:ρ.length=X.N.length:=by rw[er.len,I.len]
 refine zIs hk hok I T h0 UO λc C j pI o=>?_
 have nw:=zf.newH (o:=.lst []) sm o.nD
 refine O0 (Y:=zp X nm scope C j (upd H c<|.lst []) fp) (G:=G) (H:=H) (ρ:=ρ) rfl hc (by rw[hr];show fJ) (hg _ _ _ _) (ht _ _ _ _) (he _ _ _ _) T o.st uG hl o.nD
  ⟨EB _,o.inv,o.tn,o.fr,nw,(er.step nw).app nm.length _ (by simp),((XH.new er o.nD).grow er<|yM o.nD).app er,sm.free o.nD,zL,HA.nil,rA _,‹UZ›,by cases r<;>rfl⟩ hW
  (λzs e uC H' G' vs s' J t g h r=>sZ zs e c C s' H' G' vs (o.out _ _ _ _ J) t o.nD g h r) λp' uC Hs s0 e s' J0 z=>?_
 obtain⟨x,S,C0,H',rfl,os,bare,un,IL,BU,nx,nT,B8,Gh,hE⟩:=z;have W0:=o.out _ _ _ _ J0;obtain⟨m,oC,_,_,l8,_⟩:=W0.ns
 have Z:∀b,s0.heap.get? b=none->X.s₀.heap.get? b=none:=λb n=>by
  cases q:X.s₀.heap.get? b with
  |none=>rfl
  |some o=>
   obtain⟨o',q'⟩:=W0.inv.base.there b o q (by rw[hex _ _ _ hE];simp);rw[n]at q';cases q'
 show Gf _ C s' H' x S C0 (o.out _ _ _ _<|J0.call' os un IL bare λb m=>absurd m<|by simp) BU (Z x nx) (Z S nT) B8 Gh hE (λz=>by subst z;rw[nx]at l8;cases l8) (λz=>by subst z;rw[nT]at l8;cases l8)
theorem Od{p:iF}{f:dC}{s:Shared}{ds ys:List D}{tn:Nat->Heap->Prop}{E:vD}{RR:Value->Addr->jJ->Shared->Prop}(hc:X.calm=true)(hk:scope.kind=.function)(hok:qU X.N nm scope.names X.env.scope.names=true)(fJ:CM X.N.length gd)(hg:∀C j O ex,SG (zp X nm scope C j O ex) tg gd)(ht:∀C j O ex,bR (zp X nm scope C j O ex) ifs p)(he:∀C j O ex,SE (zp X nm scope C j O ex) elt f)(I:Inv X pins σ H s)(T:eP X.prog X.w X.K tg J fp it tn)(h0:tn 0 s.heap)(Y:∀b∈fp,SH X pins H b)(sm:zh G H)(er:Er X.K G H ρ σ)(uG:YM X.K G J ds)(hl:ds.length<=10000000)(Z:zR gd p f ds (ρ++pA nm.length .un)>ys)(sZ:∀c C s' H' G' vs,Cw X pins σ H' s' C->zf G H G' H'->H c=none->G' c=none->H' c>.lst vs->HA X.K G' ys vs->RR (.ref c) C (.ok .next) s'):
  wpAny (model X.prog X.w) X.A (newList []) (λacc j=>wpAny (model X.prog X.w) X.A (newFunctionEnv scope X.env.globals (CJ scope.names X.env.cells) [] X.env.qual none .none<|some X.env) (λS pI=>
   xE (model X.prog X.w) X.A (.compStart (.ListComp elt [⟨tg,iter,ifs,0⟩] scope pos) 0 (.ref it) acc { S with scope:=relabel scope X.env }) (RR acc S.locals) pI) E j) E s:=by
 refine ww (κ:=λ_=>0) (W:=λ_ _ _=>False) (f:=λρ=>(f ρ).map .ok) hc hk hok fJ hg ht (λC j O ex EE _=>?_) (λ_ _ _ z=>z.elim) I T h0 Y sm er uG hl (Pc Z) (λc z=>by cases z) (λd9 z=>by cases z;show sZ) λ_ _ _ _ _ _ _ _ _ _ _ _ _ z=>z.elim
 intro pins s σ H Q I h;obtain⟨G,ρ,r,s',er,ef,k⟩:=h;obtain⟨d,e1,rfl⟩:=cA.mp ef;show wpAny_mono (he C j O ex pins s σ H Q I.unwish ⟨G,ρ,d,s',er,e1,k⟩) (λu s2 ⟨v,H2,U,q⟩=>⟨v,H2,U.wish _,q⟩) λ_ _ z=>z.elim
end
def tCF(K:Fg)(κ:Nat->Addr)(W:XK)(g:lB->Option (Except Nat<|List D)):TE:=λσ H Q=>∃G ρ r,zh G H/\Er K G H ρ σ/\g ρ>r/\match r with
 |.ok ys=>∀a vs G' H',zf G H G' H'->H a=none->G' a=none->H' a>.lst vs->HA K G' ys vs->Q (.ref a) H'
 |.error c=>∀G' H',zf G H G' H'->W (.ref<|κ c) none H'
section
variable {P:Program}{w:World}{K:Fg}{mg:gF}{base:Heap}{N:List Str}{qual:Str}{eG:EF}{fa:Addr}{cd:Value}{A:Around}{outer:List Env}{s₀:Shared}{H₀:Hp}{E:XK}{tg iter elt o:Expr}{scope:EF}{pos pos' LK:Pos}{nm:List Str}{fl:dD}{gd:D->lB->Option lB}{g:lB->Option (Except Nat D)}{κ:Nat->Addr}{C:Addr}{fld:Str}
theorem zQI(hm:nm.length=m)(hk:scope.kind=.function)(hok:qU N nm scope.names eG.names=true)(hi:SI (YD P w K mg base N qual eG fa cd A outer s₀ H₀ E) tg iter fl)(fJ:CM N.length gd)(hg:∀C Z aB ex,SG (zp (YD P w K mg base N qual eG fa cd A outer s₀ H₀ E) nm scope C Z aB ex) tg gd)(he:∀(C:Addr)(Z:Shared)(aB:Hp)(ex:List Addr)(EE:vD),vO (GK P w) ((zp (YD P w K mg base N qual eG fa cd A outer s₀ H₀ E) nm scope C Z aB ex).wish EE) E->PE ((zp (YD P w K mg base N qual eG fa cd A outer s₀ H₀ E) nm scope C Z aB ex).wish EE) elt (QS K κ E g))(hs:∀x,cC iter (YD P w K mg base N qual eG fa cd A outer s₀ H₀ E).env x=pure x:=by intro _;rfl):PE (YD P w K mg base N qual eG fa cd A outer s₀ H₀ E) (.ListComp elt [⟨tg,iter,[],0⟩] scope pos) (tCF K κ E<|BX m fl gd g):=by
 intro pins s σ H Q I h;obtain⟨G,ρ,r,sm,er,ef,k⟩:=h;obtain⟨ds,e1,e2⟩:=aA.mp ef;split at e2
 .rename_i hl;subst hm;have IL:qU (YD P w K mg base N qual eG fa cd A outer s₀ H₀ E).N nm scope.names (YD P w K mg base N qual eG fa cd A outer s₀ H₀ E).env.scope.names=true:=hok;have HI:bH scope (YD P w K mg base N qual eG fa cd A outer s₀ H₀ E).env=pure (CJ scope.names (YD P w K mg base N qual eG fa cd A outer s₀ H₀ E).env.cells):=qc λy hy hf=>I.ok.has y.1 ((yE IL hy).2.2.2 hf)
  rw[gK];refine wpAny_comprehension_free (use:=none) rfl hs HI hk (λy hy=>(yE IL hy).2.2.1) (UC (hi pins s σ H _ I ⟨G,ρ,ds,sm,er,e1,λJ G' H' t it=>(⟨G',t,it⟩:∃G',zf G H G' H'/\YM K G' J ds)⟩) λv s1 h1=>UC h1 λaV s2 h2=>?_);obtain⟨it,fp,tn,J,H2,rfl,I2,T,xI,f2,G2,t2,uR⟩:=h2;refine ww (X:=(YD P w K mg base N qual eG fa cd A outer s₀ H₀ E)) (W:=E) (κ:=κ) (RR:=λacc C=>PN (model P w) (YD P w K mg base N qual eG fa cd A outer s₀ H₀ E).A (YD P w K mg base N qual eG fa cd A outer s₀ H₀ E).xe none (EP (YD P w K mg base N qual eG fa cd A outer s₀ H₀ E) pins σ Q) acc C) rfl hk IL fJ hg (λ_ _ _ _=>.inl ⟨rfl,rfl⟩) he (λ_ _ _ _=>rfl) I2 T xI f2 t2.s (er.step t2) uR (vA hl<|02) ((zK2 ds).trans e2) (λc hc G' H' t=>?_) (λys hy D C s' H' G' vs o t' nD gD hD rD=>?_) λacc C s' H' x j C0 o BU nx nT hx hT hE xC TC=>?_
  .subst hc;show k G' H'<|t2.trans t
  .subst hy;show⟨_,o.ns.choose_spec,λh' fL=>⟨.ref D,H',o.turned fL,rfl,k D vs G' H' (t2.trans t') (t2.h.free nD) gD hD rD⟩⟩
  .obtain⟨I',⟨m',hn⟩,hC1,hC2,Ws,hC4,hC5⟩:=o;obtain⟨a0,f1,f2',f3,f4⟩:=BU;have mZ:(YD P w K mg base N qual eG fa cd A outer s₀ H₀ E).A.frames>((YD P w K mg base N qual eG fa cd A outer s₀ H₀ E).env::outer):=I'.ok.frames;have f3':s'.heap.FunFrames (PB s'.heap (C::x::j::BH (YD P w K mg base N qual eG fa cd A outer s₀ H₀ E).stack)) ((YD P w K mg base N qual eG fa cd A outer s₀ H₀ E).env::outer):=ZG f3 λenv he a ha=>bA _ (bA _<|bA _<|kB.mpr ⟨env,he,ha⟩)
   obtain⟨oe,vs,T2,oT,ts,g1,g2,g3,g4,g5,g6,g7,g8,g9⟩:=f4
   have eT:(PB s'.heap (C::x::j::BH (YD P w K mg base N qual eG fa cd A outer s₀ H₀ E).stack)).get? T2=none:=by
    cases q:(PB s'.heap (C::x::j::BH (YD P w K mg base N qual eG fa cd A outer s₀ H₀ E).stack)).get? T2 with
    |none=>rfl
    |some o=>
     exfalso
     have m2:T2∉x::j::BH (YD P w K mg base N qual eG fa cd A outer s₀ H₀ E).stack:=λz=>by
      rw[aD _<|bA _ z]at q;cases q
     rw[pD _ g7 m2]at g5;cases g5
   have S:lS (PB s'.heap (C::x::j::BH (YD P w K mg base N qual eG fa cd A outer s₀ H₀ E).stack)) ((YD P w K mg base N qual eG fa cd A outer s₀ H₀ E).env::outer) x (.ref C0) a0 .none s'.heap:=
    ⟨λb o e=>LF _ e,aD _ (by simp),f3',oe,vs,T2,oT,ts,g1,g2,g3,g4,eT,g6,g7,g8,g9⟩
   change wpAny (model P w) (YD P w K mg base N qual eG fa cd A outer s₀ H₀ E).A (noteFrame (.ref x) _) _ _ s';rw[show noteFrame (.ref x) (compEnvC scope (CJ scope.names (YD P w K mg base N qual eG fa cd A outer s₀ H₀ E).env.cells) C (YD P w K mg base N qual eG fa cd A outer s₀ H₀ E).env)=noteFrame (.ref x) (YD P w K mg base N qual eG fa cd A outer s₀ H₀ E).env from zGZ rfl];refine Dd mZ (L:=s₀.heap.objs.size) rfl ⟨S.st,S.no,S.ff,S.tr⟩ λh1 U up1=>?_
   refine⟨m',up1.ns hn,λh2 sb GI hcl=>?_⟩;have O:∀b o,b≠C->h1.get? b>o->h2.get? b>o:=λb o nb e=>sb.extBut b o nb e
   obtain⟨w1,w2,w3,oe1,NK,T1,oT1,ts1,y1,y2,y3,y4,y5,y6,y7,y8,y9⟩:=U;have bC:(PB s'.heap (C::x::j::BH (YD P w K mg base N qual eG fa cd A outer s₀ H₀ E).stack)).get? C=none:=aD _ (by simp)
   have T1C:T1≠C:=λz=>by
    subst z;obtain⟨oc,_,_,q1,q2,_⟩:=up1.ns hn;rw[y7]at q1;cases q1;rw[y8]at q2;cases q2
   have Wp:C∉BH (YD P w K mg base N qual eG fa cd A outer s₀ H₀ E).stack:=λz=>by
    rcases kB.mp z with⟨env,he,hf⟩
    rcases lA.mp he with rfl|he
    .show hC2 (DB hf).symm
    .obtain⟨_,o,q,_⟩:=I'.ok.funs.mem<|kB.mpr ⟨env,he,hf⟩;show absurd (DA (GA q) Ws)<|GC _
   have L2':lS (PB s'.heap (C::x::j::BH (YD P w K mg base N qual eG fa cd A outer s₀ H₀ E).stack)) ((YD P w K mg base N qual eG fa cd A outer s₀ H₀ E).env::outer) x (.ref C0) a0 (rawInt s₀.heap.objs.size) h2:=
    ⟨λb o e=>O b o (λz=>by subst z;rw[bC]at e;cases e)<|w1 b o e,S.no,wj (λb o m e=>O b o (λz=>Wp<|z ▸ m) e) w3,oe1,NK,T1,oT1,ts1,O x _ xC y1,y2,y3,y4,y5,y6,O T1 _ T1C y7,y8,y9⟩
   refine zQH (s:={ s' with heap:=h2 }) L2' λh3 fl3 L3 D0=>?_
   change wpAny (model P w) (YD P w K mg base N qual eG fa cd A outer s₀ H₀ E).A (leaving (YD P w K mg base N qual eG fa cd A outer s₀ H₀ E).env<|.ref x) _ _ _;refine zNz (s:={ s' with heap:=h3 }) mZ (L:=s₀.heap.objs.size) rfl L3 λh4 Fw Y8=>?_
   refine zNY (s:=s') I' (λb m=>?_) Fw (λb m o e n=>?_) nx hx hE
   .rcases lA.mp m with rfl|m
    .show .inr ⟨by
      cases q:s₀.heap.get? b with
      |none=>rfl
      |some o=>show absurd (DA (GA q) Ws)<|GC _,hC1⟩
    rcases lA.mp m with rfl|m
    .show .inr ⟨nx,hx⟩
    rcases lA.mp m with rfl|m
    .show .inr ⟨nT,hT⟩
    .show .inl m
   .obtain⟨sl1,gI⟩:=up1 b o e n;have bC':b≠C:=λz=>Wp (by subst z;show kB.mpr (by obtain⟨env,he,hf⟩:=kB.mp m;show⟨env,bA _ he,hf⟩))
    have mO:=O b _ bC' gI;have ZY:=D0 b _ mO n;obtain⟨sl4,e4'⟩:=Y8 b _ ZY n;show⟨sl4,e4'⟩
 .cases e2
theorem zQJ(i:Nat)(c:xJ K C)(n:qR K C fld)(ho:PE (YD P w K mg base N qual eG fa cd A outer s₀ H₀ E) o (RG i))(hm:nm.length=m)(hk:scope.kind=.function)(hok:qU N nm scope.names eG.names=true)(hi:SI (YD P w K mg base N qual eG fa cd A outer s₀ H₀ E) tg iter fl)(fJ:CM N.length gd)(hg:∀C j I ex,SG (zp (YD P w K mg base N qual eG fa cd A outer s₀ H₀ E) nm scope C j I ex) tg gd)(he:∀(C:Addr)(j:Shared)(I:Hp)(ex:List Addr)(S:vD),vO (GK P w) ((zp (YD P w K mg base N qual eG fa cd A outer s₀ H₀ E) nm scope C j I ex).wish S) E->PE ((zp (YD P w K mg base N qual eG fa cd A outer s₀ H₀ E) nm scope C j I ex).wish S) elt (QS K κ E g))(hs:∀x,cC iter (YD P w K mg base N qual eG fa cd A outer s₀ H₀ E).env x=pure x:=by intro _;rfl)(JK:ZE (.ListComp elt [⟨tg,iter,[],0⟩] scope pos) (some<|.Attribute o fld pos') LK.line (YD P w K mg base N qual eG fa cd A outer s₀ H₀ E).env=pure false:=by rfl):
  SX (YD P w K mg base N qual eG fa cd A outer s₀ H₀ E) κ E (.Assign [.Attribute o fld pos'] (.ListComp elt [⟨tg,iter,[],0⟩] scope pos) LK) (x6 C i fld<|BX m fl gd g):=
 yg (Ra ho (zQI hm hk hok hi fJ hg he hs) JK) λE' σ H=>by
  rintro⟨G0,H0,G,ρ,out,st,J,kk⟩;obtain⟨r,e1,J⟩:=aA.mp J;refine⟨G,ρ,r,st.bs.gh,st.er,e1,?_⟩
  cases r with
  |error c0=>
   cases J
   showλG' H' t=>kk G' H'<|st.bs.step t
  |ok ys=>
   obtain⟨o',O,rfl⟩:=cA.mp J;obtain⟨c',fs,Y,hl,U,rfl⟩:=Pb O;intro b vs G' H' t h1 h2 h3 rp;have t':=Ri t h1 h2 h3;have rep:Rep K (upd G' b<|.lst vs) (.lst ys) (.ref b):=cQ.mpr ⟨b,vs,rfl,MF.of zL,HA.mono (yM h2) _ _ rp⟩;have SC:=st.step t';obtain⟨a,q1,q2,q3⟩:=SC.er.slot i _ Y rfl;obtain⟨dx,ws,Z,z2,z3,z4,z5⟩:=q2.1.1;show⟨_,q1,a,C,dx,ws,rfl,Z,c,n,01,kk σ _ _<|SC.addL (fl:=.v<|.lst ys) (u:=.ref b) Y q1 Z hl rep (by simp[iI]) λp m=>by cases m⟩
end
structure Left(G H G' H':Hp)(l:List Addr):Prop where
 g:zh G G'
 gh:zh G' H'
 fr:∀b o,G' b>o->G b=none->H b=none\/b∈l
 h:∀b o,H b>o->b∉l->H' b>o
def V6(K:Fg)(κ:Nat->Addr)(f:Ob->List D->Option (Except Nat Ob))(n:Nat):Sp:=λvs H Q E=>∃G x a ds ws r,vs=.ref a::ws/\zh G H/\At K G H x a/\HA K G ds ws/\ds.length+1=n/\f x ds>r/\match r with
 |.ok x'=>∀G' H',Dg K G H G' H' x x' a->Q .non H'
 |.error c=>∀G' H',Left G H G' H' (YE H x a)->E (.ref<|κ c) none H'
theorem zTV{P:Program}{w:World}{K:Fg}{mg:gF}{base:Heap}{κ:Nat->Addr}{x qual:Str}{st:Stmt}{fa:Addr}{fd:FuncData}{N ps:List Str}{k:Nat}{F:lB->Option fG}{f:Ob->List D->Option (Except Nat Ob)}
  (Z:nN K x qual st fa fd) (S:zU N ps (zI st))
  (gE:∀(J:Value)(A:Around)(outer:List Env)(s:Shared)(H:Hp)(E:XK),IF k (A.deeper<|envOfC qual (zI st) s.heap.objs.size fa J)->sP (YD P w K mg base N qual (zI st) fa J A outer s H E) κ E (yF st) F)
  (hf:∀a y ds r,ds.length+1=ps.length->f y ds>r->zV5 N F a y ds>r):KI P w K mg base (GK P w) (k+1) fa fd ps (V6 K κ f ps.length):=by
 obtain⟨oc,od,kV,doc,pm,an,J,ct,RP,rfl,lk,uM⟩:=Z.ex;refine Cb lk uM S (λvs H Q E h=>?_) λA outer s H vs Q E hr h=>?_
 .obtain⟨G,y,a,ds,ws,y',rfl,_,_,r,U,_⟩:=h;rw[kA,<- r.length,U]
 .obtain⟨G,y,a,ds,ws,res,rfl,sm,O,r,U,ef,kk⟩:=h;refine⟨_,gE J A outer s H E hr,?_⟩;obtain⟨o,e1,j⟩:=aA.mp<|hf a y ds res U ef;have vU:Er K G H (.o (some a) y::ds.map Sl.v) ((V.ref a::ws).map some):=Ba rfl ⟨⟨O.rep,O.nd⟩,λc' e=>by cases e;rfl⟩ O.fr r;have er:=vU.app (N.length-(ds.length+1)) (pA (N.length-(ds.length+1)) none) (by simp);have es:L2.fM N (.ref a::ws)=(V.ref a::ws).map some++pA (N.length-(ds.length+1)) none:=by rw[B5,kA,<- r.length]
  have kL:((V.ref a::ws).map some++pA (N.length-(ds.length+1)) none)[0]?>(some<|.ref a):=by simp
  have no:=λb=>wf (H:=H) (x:=y) (ds:=ds) (m:=N.length-(ds.length+1)) (b:=b) kL
  rw[es];refine⟨G,qT H _ _,G,_,o,er.toSt sm,e1,?_⟩
  cases o with
  |ex c=>
   cases j;intro G' H' b;refine kk G' H' ⟨b.gg,b.gh,λd o e n=>?_,λd o e n=>b.hh d o (by rw[(no d).2 n];show e)⟩;have z:=b.fr d o e n;by_cases hb:d∈YE H y a
   .show .inr hb
   .rw[(no d).2 hb]at z;show .inl z
  |o out=>
   cases out with
   |nx ρ=>
    obtain⟨y',e3,rfl⟩:=cA.mp j;clear j;unfold fT at e3;split at e3
    .rename_i c y1 Y;split at e3
     .rename_i hc;cases e3;subst hc;intro uC G' H' SC;obtain⟨I,g1,g2,g3⟩:=SC.er.slot 0 _ Y rfl;have:I=a:=g2.2 a rfl;subst this;refine kk G' H' ⟨SC.bs.gg,SC.bs.gh,λb o e n=>?_,λb o e n=>SC.bs.hh b o (by rw[(no b).2 n];show e),⟨g2.1.1,g2.1.2,g3⟩,λc m=>?_⟩
      .have z:=SC.bs.fr b o e n;by_cases hb:b∈YE H y I
       .show .inr hb
       .rw[(no b).2 hb]at z;show .inl z
      .have z:=SC.ows 0 _ I Y rfl g1 c m;by_cases hb:c∈YE H y I
       .show .inl hb
       .rw[(no c).2 hb]at z;show .inr z
     .cases e3
    .cases e3
   |rt d=>cases j
   |bk ρ=>cases j
   |ct ρ=>cases j
   |ro ρ=>cases j
   |rm d ρ=>cases j
section
variable {X:Cx}{tg iter elt:Expr}{ifs:List Expr}{scope:EF}{pos:Pos}{nm:List Str}{fl:dD}{gd:D->lB->Option lB}{p:iF}{f:dC}
theorem qI(hm:nm.length=m)(hc:X.calm=true)(hk:scope.kind=.function)(hok:qU X.N nm scope.names X.env.scope.names=true)(hi:SI X tg iter fl)(fJ:CM X.N.length gd)(hg:∀C j z ex,SG (zp X nm scope C j z ex) tg gd)(ht:∀C j z ex,bR (zp X nm scope C j z ex) ifs p)(he:∀C j z ex,SE (zp X nm scope C j z ex) elt f)(hs:∀x,cC iter X.env x=pure x:=by intro _;rfl):SF X (.ListComp elt [⟨tg,iter,ifs,0⟩] scope pos) (zK m fl gd p f):=by
 intro pins s σ H Q I h;obtain⟨G,ρ,ys,sm,er,Z,k⟩:=h;obtain⟨ds,Y,O⟩:=aA.mp Z;split at O
 .rename_i hl;subst hm;have S:bH scope X.env=pure (CJ scope.names X.env.cells):=qc λy hy hf=>I.ok.has y.1 ((yE hok hy).2.2.2 hf)
  rw[gK];refine wpAny_comprehension_free (use:=none) rfl hs S hk (λy hy=>(yE hok hy).2.2.1) (UC (hi pins s σ H _ I ⟨G,ρ,ds,sm,er,Y,λJ G' H' t it=>(⟨G',t,it⟩:∃G',zf G H G' H'/\YM X.K G' J ds)⟩) λv s1 h1=>UC h1 λaV s2 h2=>?_);obtain⟨it,fp,tn,J,H2,rfl,U,T,xI,f2,G2,t2,uR⟩:=h2;refine Od (RR:=λacc C=>PN (model X.prog X.w) X.A X.xe none (EP X pins σ Q) acc C) hc hk hok fJ hg ht he U T xI f2 t2.s (er.step t2) uR (vA hl<|02) O λD C s' H' G' vs o t' nD gD hD rD=>?_
  show⟨_,o.ns.choose_spec,λh' fL=>⟨.ref D,H',o.turned fL,rfl,k D vs G' H' (t2.trans t') (t2.h.free nD) gD hD rD⟩⟩
 .cases O
def cP(m:Nat)(fl:dD)(g:D->lB->Option lB)(p:iF)(f:dC):dD:=λρ=>(fl ρ).bind λds=>if ds.length<=10000000 then zR g p f ds (ρ++pA m .un) else none
theorem Ak(hm:nm.length=m)(hc:X.calm=true)(hk:scope.kind=.function)(hok:qU X.N nm scope.names X.env.scope.names=true)(hi:SI X tg iter fl)(fJ:CM X.N.length gd)(hg:∀C j z ex,SG (zp X nm scope C j z ex) tg gd)(ht:∀C j z ex,bR (zp X nm scope C j z ex) ifs p)(he:∀C j z ex,SE (zp X nm scope C j z ex) elt f)(hs:∀x,cC iter X.env x=pure x:=by intro _;rfl):SF X (.ListComp elt [⟨tg,iter,ifs,0⟩] scope pos) (cP m fl gd p f):=by
 intro pins s σ H Q I h;obtain⟨G,ρ,ys,sm,er,Z,k⟩:=h;obtain⟨ds,Y,O⟩:=aA.mp Z;split at O
 .rename_i hl;subst hm;have S:bH scope X.env=pure (CJ scope.names X.env.cells):=qc λy hy hf=>I.ok.has y.1 ((yE hok hy).2.2.2 hf)
  rw[gK];refine wpAny_comprehension_free (use:=none) rfl hs S hk (λy hy=>(yE hok hy).2.2.1) (UC (hi pins s σ H _ I ⟨G,ρ,ds,sm,er,Y,λJ G' H' t it=>(⟨G',t,it⟩:∃G',zf G H G' H'/\YM X.K G' J ds)⟩) λv s1 h1=>UC h1 λaV s2 h2=>?_);obtain⟨it,fp,tn,J,H2,rfl,U,T,xI,f2,G2,t2,uR⟩:=h2;refine Od (RR:=λacc C=>PN (model X.prog X.w) X.A X.xe none (EP X pins σ Q) acc C) hc hk hok fJ hg ht he U T xI f2 t2.s (er.step t2) uR hl O λD C s' H' G' vs o t' nD gD hD rD=>?_
  show⟨_,o.ns.choose_spec,λh' fL=>⟨.ref D,H',o.turned fL,rfl,k D vs G' H' (t2.trans t') (t2.h.free nD) gD hD rD⟩⟩
 .cases O
theorem zK3{py LK:Pos}{fo:lB->List D->Out}(hm:nm.length=m)(hc:X.calm=true)(hk:scope.kind=.function)(hok:qU X.N nm scope.names X.env.scope.names=true)(hi:SI X tg iter fl)(fJ:CM X.N.length gd)(hg:∀C j O ex,SG (zp X nm scope C j O ex) tg gd)(ht:∀C j O ex,bR (zp X nm scope C j O ex) ifs p)(he:∀C j O ex,SE (zp X nm scope C j O ex) elt f)(hN:X.N.Nodup)(hx:X.N[i]?>x)(DP:Loc X.env.scope x)(JK:ZE (.ListComp elt [⟨tg,iter,ifs,0⟩] scope pos) (some<|.Name x py) LK.line X.env=pure true)(hf:SN X x)(hs:∀x,cC iter X.env x=pure x)(hfo:∀{G0 H0 G H G' H':Hp}{ρ:lB}{σ:L2.St}{a:Addr}{vs:List V}{ys:List D}{E:RQ},jD X.K G0 H0 G H ρ σ->zf G H G' H'->H a=none->G' a=none->H' a>.lst vs->HA X.K G' ys vs->aY X.K G0 H0 E (fo ρ ys)->E.nx (σ.set i<|some<|.ref a) H'):
  SS X (.Assign [.Name x py] (.ListComp elt [⟨tg,iter,ifs,0⟩] scope pos) LK) (λρ=>(zK m fl gd p f ρ).map<|fo ρ):=by
 intro pins s σ H E I h;obtain⟨G0,H0,G,ρ,o,st,ef,k⟩:=h;obtain⟨ys,tM,rfl⟩:=cA.mp ef;obtain⟨ds,e1,Y⟩:=aA.mp tM;split at Y
 .rename_i hl;subst hm;have HI:bH scope X.env=pure (CJ scope.names X.env.cells):=qc λy hy hf=>I.ok.has y.1 ((yE hok hy).2.2.2 hf)
  rw[exec_Assign_Name_used _ _ _ _ JK];refine wpAny_bind<|wpAny_standAt<|wpAny_bind ?_;change wpAny _ X.A (do let _ <- comprehension (.ListComp elt [⟨tg,iter,ifs,0⟩] scope pos) scope X.env _ (newList []) false (eval iter X.env) (some<|assign (.Name x py) X.env)) _ _ s
  refine wpAny_bind (wpAny_mono (wpAny_comprehension_free (use:=some<|assign (.Name x py) X.env) (Q:=λ_ s'=>SP X pins E .next s') rfl hs HI hk (λy hy=>(yE hok hy).2.2.1)
   (UC (hi pins s σ H _ I ⟨G,ρ,ds,st.bs.gh,st.er,e1,λJ G' H' t it=>(⟨G',t,it⟩:∃G',zf G H G' H'/\YM X.K G' J ds)⟩) λv s1 h1=>UC h1 λaV s2 h2=>?_)) (λ_ s' hq=>wpAny_pure<|wpAny_pure hq) λ_ _ e=>e)
  obtain⟨it,fp,tn,J,H2,rfl,I2,T,xI,f2,G2,t2,uR⟩:=h2;refine Od (RR:=λacc C=>PN (model X.prog X.w) X.A X.xe (some<|assign (.Name x py) X.env) (λ_ s'=>SP X pins E .next s') acc C) hc hk hok fJ hg ht he I2 T xI f2 t2.s (st.er.step t2) uR (vA hl<|02) Y λD C s' H' G' vs o t' nD gD hD rD=>?_
  change wpAny _ _ (assign (.Name x py) X.env<|.ref D) _ _ _;refine wpAny_assign_Name (zII (v:=.ref D) o.inv hN hx DP rfl (λCQ U S=>?_) hf);obtain⟨a,S,ha⟩:=S
  have Z:C≠a:=by
   rcases ha with z|z
   .rw[z];show o.ne
   .show(o.cl x a z).symm
  refine⟨_,o.ns.choose_spec.sameBut S Z,λh' fL=>⟨_,H',U.turned (t':=CQ.toks) (λb o hb e=>fL.extBut b o hb e) o.fr o.ne (.inr o.sz) o.cl o.pn,?_⟩⟩;show hfo st (t2.trans t') (t2.h.free nD) gD hD rD k
 .cases Y
variable {m:Nat}{x:Str}{py LK:Pos}
theorem Mr(i:Nat)(hm:nm.length=m)(hc:X.calm=true)(hk:scope.kind=.function)(hok:qU X.N nm scope.names X.env.scope.names=true)(hi:SI X tg iter fl)(S:CM X.N.length gd)
  (Y:∀C j z ex,SG (zp X nm scope C j z ex) tg gd) (Z:∀C j z ex,bR (zp X nm scope C j z ex) ifs p) (he:∀C j z ex,SE (zp X nm scope C j z ex) elt f)
  (U:X.N.Nodup) (hx:X.N[i]?>x) (J:Loc X.env.scope x)
  (O:ZE (.ListComp elt [⟨tg,iter,ifs,0⟩] scope pos) (some<|.Name x py) LK.line X.env=pure true:=by rfl)
  (hf:SN X x:=by first|show .inl rfl|show .inr rfl|assumption) (hs:∀x,cC iter X.env x=pure x:=by intro _;rfl) :
  SS X (.Assign [.Name x py] (.ListComp elt [⟨tg,iter,ifs,0⟩] scope pos) LK) (qF i λρ=>(zK m fl gd p f ρ).map .lst):=by
 have:=zK3 (fo:=λρ ys=>.nx<|ρ.set i<|.v<|.lst ys) hm hc hk hok hi S Y Z he U hx J O hf hs (λ{G0 H0 G H G' H' ρ σ a vs ys E} st t h1 h2 h3 r k=>k _ _ _<|(st.step<|Ri t h1 h2 h3).setV<|cQ.mpr ⟨a,vs,rfl,MF.of zL,HA.mono (yM h2) _ _ r⟩);refine yg this λQ σ H ⟨G0,H0,G,ρ,o,st,I,k⟩=>⟨G0,H0,G,ρ,o,st,?_,k⟩
 unfold qF at I;rw[Option.map_map]at I;show I
theorem wk(i:Nat)(hm:nm.length=m)(hc:X.calm=true)(hk:scope.kind=.function)(hok:qU X.N nm scope.names X.env.scope.names=true)(hi:SI X tg iter fl)(S:CM X.N.length gd)
  (Y:∀C j I ex,SG (zp X nm scope C j I ex) tg gd) (Z:∀C j I ex,bR (zp X nm scope C j I ex) ifs p) (he:∀C j I ex,SE (zp X nm scope C j I ex) elt f)
  (U:X.N.Nodup) (hx:X.N[i]?>x) (J:Loc X.env.scope x)
  (O:ZE (.ListComp elt [⟨tg,iter,ifs,0⟩] scope pos) (some<|.Name x py) LK.line X.env=pure true:=by rfl)
  (hf:SN X x:=by first|show .inl rfl|show .inr rfl|assumption) (hs:∀x,cC iter X.env x=pure x:=by intro _;rfl) :
  SS X (.Assign [.Name x py] (.ListComp elt [⟨tg,iter,ifs,0⟩] scope pos) LK) (AJ i<|zK m fl gd p f):=
 zK3 (fo:=λρ ys=>.nx<|ρ.set i<|.l ys) hm hc hk hok hi S Y Z he U hx J O hf hs (λ{G0 H0 G H G' H' ρ σ a vs ys E} st t h1 h2 h3 r k=>k _ _ _<|st.setOwn t rfl h1 h2 (λxs z=>by cases z;show⟨vs,h3,r⟩) λ_ z=>by cases z)
end
section
variable {X:Cx}{κ:Nat->Addr}{C fi:Addr}{fd:FuncData}{ps:List Str}{e:Expr}{es:List Expr}{fl:dD}{pos p JB uU np HP:Pos}{x xc y:Str}{k n:Nat}{F:Ob->List D->Option (Except Nat Ob)}{lO:Stmt}{pL:List Stmt}{Fh:aC}
theorem zTW(M:Mk X.K C fi)(FO:KI X.prog X.w X.K X.mg X.base (GK X.prog X.w) k fi fd ps (V6 X.K κ F n))(hb:OL X.K fd ps [])(hr:IF (k+1) X.A)(hg:Gl X x)(hm:X.mg x>.ref C)(hn:(e::es).length+1=n)(ha:SA X.nox (e::es) fl)(Z:X.ex=[])(I:Inv X pins σ H s){Q Xe:vD}(sm:zh G H)(er:Er X.K G H ρ σ)(e1:fl ρ>ds)(e2:F (.ins C []) ds>r)(hok:∀O,r=.ok O->∀a G' H' s',zf G H G' H'->At X.K G' H' O a->(∀c∈YE H' O a,H c=none)->Inv X pins σ H' s'->Q (.ref a) s')(Gq:∀c,r=.error c->∀G' H' s' y T,zf G H G' H'->Inv X pins σ H' s'->wY X.stack y T (.ref<|κ c) s'.heap->WV X pins H' y->WV X pins H' T->Xe (.ref y) s')(II:BM x:=by decide)(he:oG X e es:=by rfl)(BE:WH X pos es:=by rfl):
  wpAny (model X.prog X.w) X.A (eval (.Call (.Name x p) (e::es) [] pos) X.env) Q Xe s:=by
 refine wpAny_Call_Name_kw<|Ax I hg hm ?_ II;have hA:=ha.pa pos pins s σ H (λvs H1=>∃j,zf G H j H1/\HA X.K j ds vs) (I.wish _) ⟨G,ρ,ds,sm,er,e1,λvs j H1 t1 r1=>⟨j,t1,r1⟩⟩;refine vI (h₀:=X.base) I.ok.mod.kin M.kp (wpAny_mono hA (λus s1 ⟨vs,H1,I1,rv,j,t1,r1⟩=>⟨I1.unwish.kIn,?_⟩) λ_ _ z=>False.elim z) he BE;have I1:=I1.unwish;have m8:H1 (s1.heap.objs.size+1)=none:=I1.hok.fresh<|AC _;have o8:H1 s1.heap.objs.size=none:=I1.hok.fresh<|rA _;have XW:s1.heap.objs.size≠s1.heap.objs.size+1:=OA<|mH _;have S:=Inv.made (C:=C) I1;generalize hav:s1.heap.objs.size+1=a at m8 XW S;generalize hdv:s1.heap.objs.size=dx at o8 XW S;have g1:j a=none:=t1.s.free m8;have g2:j dx=none:=t1.s.free o8
 have hH:∀b u,H1 b>u->upd (upd H1 dx<|.own a) a (.ins C dx []) b>u:=λb u e=>by
  rw[upd_ne<|yV e m8,upd_ne<|yV e o8];show e
 have ea:upd (upd H1 dx<|.own a) a (.ins C dx []) a>.ins C dx []:=zL;have ed:upd (upd H1 dx<|.own a) a (.ins C dx []) dx>.own a:=by rw[upd_ne XW,zL]
 have fe:YE (upd (upd H1 dx<|.own a) a<|.ins C dx []) (.ins C []) a=[a,dx]:=by dsimp[YE];rw[ea];rfl
 have AA:At X.K j (upd (upd H1 dx<|.own a) a<|.ins C dx []) (.ins C []) a:=⟨⟨dx,[],ea,ed,(λq m=>by cases m),(λ_ _=>rfl),rA _⟩,by rw[fe];simp[Ne.symm XW],λp m=>by
  rw[fe]at m;rcases lA.mp m with z|m
  .subst z;show g1
  .cases jA.mp m;show g2⟩
 have low:∀b,b∈YE (upd (upd H1 dx<|.own a) a<|.ins C dx []) (.ins C []) a->H1 b=none:=λb m=>by
  rw[fe]at m;rcases lA.mp m with z|m
  .subst z;show m8
  .cases jA.mp m;show o8
 have bV:∀b,upd (upd H1 dx<|.own a) a (.ins C dx []) b=none->H1 b=none:=λb h=>by
  cases q:H1 b with
  |none=>rfl
  |some u=>rw[hH b u q]at h;cases h
 have up:∀b,H1 b=none->H b=none:=λb h=>by
  cases q:H b with
  |none=>rfl
  |some u=>rw[t1.h b u q]at h;cases h
 have hq:V6 X.K κ F n (V.ref a::vs) (upd (upd H1 dx<|.own a) a<|.ins C dx []) (λv H2=>v=.non/\∃O G',r=.ok O/\Dg X.K j (upd (upd H1 dx<|.own a) a<|.ins C dx []) G' H2 (.ins C []) O a)
   (λu _ H2=>∃c G',r=.error c/\u=.ref (κ c)/\Left j (upd (upd H1 dx<|.own a) a<|.ins C dx []) G' H2 (YE (upd (upd H1 dx<|.own a) a<|.ins C dx []) (.ins C []) a)):=by
  refine⟨j,.ins C [],a,ds,vs,r,rfl,λb u e=>hH b u<|t1.s b u e,AA,r1,by rw[ha.len _ _ e1];show hn,e2,?_⟩
  cases r with
  |ok O=>showλG' H' ch=>⟨rfl,O,G',rfl,ch⟩
  |error c=>showλG' H' U=>⟨c,G',rfl,rfl,U⟩
 have r2:yK (V.ref a::vs) (AB a::us):=.cons rfl rv
 have hl:(AB a::us++[]).length=ps.length:=by
  have e:=r2.length;rw[FO.len _ _ _ _ hq]at e;rw[oB];show e.symm
 subst hav;subst hdv;have bt:=hb _ (AB (s1.heap.objs.size+1)::us) S.kIn ‹hl›;rw[oB]at bt
 refine wpAny_call (zPW (f:=fi) I1.kIn M.makes M.init (beq_iff_eq.mp M.fn)<|codeAny_mono (FO.run _ X.stack _ _ ⟨AB (s1.heap.objs.size+1)::us,[]⟩ (AB (s1.heap.objs.size+1)::us) _ _ _ (hr.make C us [])
  (S.env0.make C us []) bt r2 hq) λrr s' Y=>?_)
 cases rr with
 |error u=>
  obtain⟨y,T,C0,H',rfl,os,bare,un,IL,BU,ny,nT,hy,hT,c,G',rfl,eC,U⟩:=Y;cases eC;have J:Inv X pins σ H' s':=S.call' os un IL bare λb m=>absurd m (by simp)
  have t2:zf j H1 G' H':=⟨U.g,λb u e=>U.h b u (hH b u e) (λm=>by rw[low b m]at e;cases e),U.gh,λb u e n=>(U.fr b u e n).elim (bV b)<|low b⟩
  show Gq c rfl G' H' s' y T (t1.trans t2) J BU (zVw S Z ny hy)<|zVw S Z nT hT
 |ok fw=>
  cases fw with
  |ret u=>
   obtain⟨v,H',I3,rv',ev,O,G',rfl,ch⟩:=S.after Y;subst ev;have t2:zf j H1 G' H':=⟨ch.g,λb u e=>ch.h b u (hH b u e) (λm=>by rw[low b m]at e;cases e),ch.gh,λb u e n=>(ch.fr b u e n).elim (bV b)<|low b⟩
   show⟨rv',hok O rfl _ G' H' s' (t1.trans t2) ch.at_ (λc m=>up c<|(ch.new c m).elim (low c)<|bV c) I3⟩
  |next=>show False.elim Y
  |brk=>show False.elim Y
  |cont=>show False.elim Y
theorem zQK(i:Nat)(S:Nat)(M:Mk X.K C fi)(FO:KI X.prog X.w X.K X.mg X.base (GK X.prog X.w) k fi fd ps (V6 X.K κ F n))(hb:OL X.K fd ps [])(hr:IF (k+1) X.A)(hg:Gl X x)(hm:X.mg x>.ref C)(hn:(e::es).length+1=n)(ha:SA X.nox (e::es) fl)(Y:X.ex=[])(hC:bW X.K (κ S))(Z:Gl X xc)(hmc:X.mg xc>(.ref<|κ S))(jL:X.stack=X.env::X.outer)(KZ:X.env.frame>X.env.locals)(hh:∀y,QJ (BZ X y).nox (lO::pL) Fh)(hN:X.N.Nodup)(hi:X.N[i]?>y)(hy:Loc X.env.scope y)(hs:PK X (.Call (.Name x p) (e::es) [] JB) (some<|.Name y pos') uU:=by rfl)(hf:SN X y:=by first|show .inl rfl|show .inr rfl|assumption)(II:BM x:=by decide)(U:BM xc:=by decide)(he:oG X e es:=by rfl)(BE:WH X JB es:=by rfl):
  SS X (.Try [.Assign [.Name y pos'] (.Call (.Name x p) (e::es) [] JB) uU] [.ExceptHandler (some<|.Name xc np) none (lO::pL) HP] [] [] pos) (AX C i fl F S Fh):=by
 intro pins s σ H D I h;obtain⟨G0,H0,G,ρ,o,st,ef,k⟩:=h;obtain⟨ds,e1,tM⟩:=aA.mp ef;obtain⟨r,e2,j⟩:=aA.mp tM;refine wpAny_Try_except (wpAny_execs_cons<|wpAny_Assign_Name (zTW M FO hb hr hg hm hn ha Y I st.bs.gh st.er e1 e2 (λx' hx a G' H' s' t O nw J=>?_) (λc hc G' H' s' y T t J BU ny nT=>?_) II he BE) hs)
 .subst hx;cases j;show Oo J hN hi hy (v:=.ref a) rfl (λs2 I2=>wpAny_execs_nil<|wpAny_execs_nil ⟨_,H',I2,k _ G' H'<|st.setNew t (w:=.o none x') rfl ⟨⟨O.rep,O.nd⟩,λ_ z=>by cases z⟩ λc m=>⟨nw c m,O.fr c m⟩⟩) hf
 .subst hc;simp only at j;split at j
  .rename_i n8;subst n8;show zVx hC Z hmc jL KZ J BU ny nT (hh y) ⟨G0,H0,G',ρ,o,st.step t,j,k⟩ U
  .cases j
end
end RD
namespace RD
open PySem PyProof.Rows
noncomputable def kN(rk:Value->Nat):KeyKind:=⟨⟨Nat,λa b=>decide<|a<b,λa=>by simp,λa b c h k=>by simp at *;omega,λa b c h=>by simp at *;omega,λa b h k=>by simp at *;omega⟩,λv=>some<|rk v,(0:Nat)⟩
def Rk(rk:Value->Nat)(xs:Array Keyed)(i:Nat):Nat:=KK (kN rk) xs i
section
variable {rk:Value->Nat}{xs:Array Keyed}
theorem zRd(hs:c<xs.size)(hd:d<=c)(k:Nat):Rk rk (bubble xs c d) k=if k=c-d then Rk rk xs c else if c-d<k/\k<=c then Rk rk xs (k-1) else Rk rk xs k:=KK_bubble hs hd k
theorem Rg(z:j<=xs.size)(k:Nat):Rk rk (mirror xs i j<|(j-i)/2) k=if i<=k/\k<j then Rk rk xs (i+j-1-k) else Rk rk xs k:=KK_mirror z k
theorem OX(z:j<=xs.size)(h:∀k,i<=k->k<j->Rk rk xs k=c)(k:Nat):Rk rk (mirror xs i j<|(j-i)/2) k=Rk rk xs k:=by
 rw[Rg z];split
 .rename_i q;rw[h _ 01<|01,h k q.1 q.2]
 .rfl
end
def vL(rk:Value->Nat)(xs:Array Keyed)(n:Nat):Prop:=∀i j,i<=j->j<n->Rk rk xs i<=Rk rk xs j
theorem zV7{rk:Value->Nat}(V:vL rk xs x)(h:Rk rk xs (x-1)<=Rk rk xs x):vL rk xs (x+1):=λi j z I=>by
 rcases jG (YQ I) with rfl|c
 .rcases jG z with rfl|d
  .show rA _
  .show vA (V i (j-1) (LO d)<|Uc (IE (EB _) d) Cz) h
 .show V i j z c
def mW(rk:Value->Nat)(xs:Array Keyed)(n:Nat):Prop:=∀i j,i<=j->j<n->Rk rk xs j<=Rk rk xs i
theorem zRe{rk:Value->Nat}(V:mW rk xs x)(h:Rk rk xs x<=Rk rk xs (x-1)):mW rk xs (x+1):=λi j z I=>by
 rcases jG (YQ I) with rfl|c
 .rcases jG z with rfl|d
  .show rA _
  .show vA h<|V i (j-1) (LO d)<|Uc (IE (EB _) d) Cz
 .show V i j z c
structure kK(kd:SortKind)(a0:Array Keyed)(st:SortSt):Prop where
 pm:(arrOf st).Perm a0
 kd:kindOf st=kd
 fl:eL st=none
 pd:pendingOf st = #[]
theorem kK.sz{kd:SortKind}{a0:Array Keyed}{st:SortSt}(h:kK kd a0 st):(arrOf st).size=a0.size:=h.pm.size_eq
theorem kK.put{kd:SortKind}{a0:Array Keyed}{st:SortSt}(h:kK kd a0 st){xs:Array Keyed}(p:xs.Perm (arrOf st)):kK kd a0 (setArr st xs):=⟨p.trans h.pm,h.kd,h.fl,h.pd⟩
section
variable {prog:Program}{w:World}{A:Around}{s:Shared}{kd:SortKind}{a0:Array Keyed}{rk:Value->Nat}
def Tf(prog:Program)(w:World)(A:Around)(s:Shared)(kd:SortKind)(a0:Array Keyed)(rk:Value->Nat):Prop:=
 ∀p∈a0.toList,∀q∈a0.toList,∀{Q:Bool->Shared->Prop}{E:vD},Q (decide<|rk p.1<rk q.1) s->wpAny (model prog w) A (keyLt' kd p.1 q.1) Q E s
variable (L:Tf prog w A s kd a0 rk){E:vD}
include L
theorem B6{st:SortSt}(B:kK kd a0 st){i j:Nat}(hi:i<a0.size)(J:j<a0.size){Q:Option Bool->SortSt->Prop}(h:Q (some<|decide<|Rk rk (arrOf st) i<Rk rk (arrOf st) j) st):wpS (model prog w) A E s (ltAt' i j) Q st:=by
 have e:∀{k:Nat},k<a0.size->∃p,p∈a0.toList/\(arrOf st)[k]?>p/\Rk rk (arrOf st) k=rk p.1:=λ{k} hk=>by
  have z:k<(arrOf st).size:=by rw[B.sz];show hk
  refine⟨(arrOf st)[k],(RK.mp B.pm).mem_iff.mp (by simp),getElem?_pos _ k z,?_⟩;unfold Rk KK;rw[getElem?_pos _ k z];rfl
 obtain⟨p,mp,I,S⟩:=e hi;obtain⟨q,O,eq,U⟩:=e J;rw[S,U]at h;rw[ltAt'_eq];refine wpS_bind<|wpS_get ?_;dsimp only;rw[elem'_eq,elem'_eq,I,eq];refine wpS_bind<|wpS_pure<|wpS_bind<|wpS_pure ?_;rw[lt'_eq];refine wpS_bind<|wpS_get ?_;rw[B.kd];show wpS_bind<|wpS_lift<|wpAny_attempt<|L p mp q O ⟨rfl,wpS_pure h⟩
theorem zV8{st:SortSt}{a n:Nat}{Q:AscSt->SortSt->Prop}(J:n<=a0.size)(ha:1<=a)(j:a<=n)(B:kK kd a0 st)(U:vL rk (arrOf st) a)(h:∀k,a<=k->k<=n->vL rk (arrOf st) k->(k=n\/Rk rk (arrOf st) k<Rk rk (arrOf st) (k-1))->Q (none,k) st):wpS (model prog w) A E s (ascLoop a n) Q st:=by
 unfold ascLoop;refine wpS_forRange (I:=λx c z=>z=st/\c=(none,x)/\vL rk (arrOf st) x) ?_ ?_ ⟨rfl,rfl,U⟩
 .rintro x c z h1 h2 ⟨rfl,rfl,V⟩;refine wpS_bind (B6 L B 01 (by dsimp only;omega) ?_);dsimp only;by_cases q:Rk rk (arrOf z) x<Rk rk (arrOf z) (x-1)
  .rw[decide_eq_true q];show wpS_pure (h x h1 01 V<|.inr q)
  .rw[decide_eq_false q];show wpS_pure ⟨rfl,rfl,zV7 V<|UL.mp q⟩
 .rintro c z ⟨rfl,rfl,V⟩;rw[show max a n=n by omega]at V ⊢;show h n j (rA _) V<|.inl rfl
theorem zRf{st:SortSt}{a n:Nat}{Q:Option Nat->SortSt->Prop}(O:n<=a0.size)(ha:1<=a)(J:a<=n)(B:kK kd a0 st)(D:mW rk (arrOf st) a)(h:∀k z,kK kd a0 z->1<=k->k<=n->vL rk (arrOf z) k->Q (some k) z):wpS (model prog w) A E s (tail3 a n) Q st:=by
 have hz:=B.sz;unfold tail3;refine wpS_bind<|wpS_reverse ?_;have I:=B.put<|mirror_perm (arrOf st) 0 a<|(a-0)/2;refine wpS_bind (zV8 L O ha J I (λi j S U=>?_) λk h1 h2 V _=>?_)
 .change Rk rk (mirror (arrOf st) 0 a<|(a-0)/2) i<=Rk rk (mirror (arrOf st) 0 a<|(a-0)/2) j;rw[Rg<|01,Rg<|01,if_pos<|01,if_pos<|01];show D _ _ 01 01
 .show wpS_pure (h k _ I 01 h2 V)
theorem zV9{st:SortSt}{a n:Nat}{Q:DescSt->SortSt->Prop}(hn:n<=a0.size)(ha:1<=a)(U:a<=n)(B:kK kd a0 st)(D:mW rk (arrOf st) a)
  (h:∀k q z,kK kd a0 z->a<=k->k<=n->q+1<=k->mW rk (arrOf z) k->(∀i,k-(q+1)<=i->i<k->Rk rk (arrOf z) i=Rk rk (arrOf z) (k-1))->Q (none,k,q) z):wpS (model prog w) A E s (descLoop a n) Q st:=by
 unfold descLoop;refine wpS_forRange (I:=λx c z=>kK kd a0 z/\∃q,c=(none,x,q)/\q+1<=x/\mW rk (arrOf z) x/\∀i,x-(q+1)<=i->i<x->Rk rk (arrOf z) i=Rk rk (arrOf z) (x-1)) ?_ ?_ ⟨B,0,rfl,01,D,λi h1 h2=>by rw[show i=a-1 by omega]⟩
 .rintro x c z h1 h2 ⟨B,q,rfl,hq,D,T⟩;have hz:=B.sz;refine wpS_bind (B6 L B (by dsimp only;omega) (by dsimp only;omega) ?_);dsimp only;by_cases lt:Rk rk (arrOf z) x<Rk rk (arrOf z) (x-1)
  .rw[decide_eq_true lt];have J:=zRe D<|kE lt;by_cases S:GT.gt q 0
   .dsimp[S,if_true];refine wpS_bind (wpS_reverse<|wpS_pure ⟨B.put<|mirror_perm ..,0,rfl,01,λi j Y Z=>?_,λi g1 g2=>by rw[show i=x+1-1 by omega]⟩);change Rk rk (mirror (arrOf z) (x-(q+1)) x<|(x-(x-(q+1)))/2) j<=Rk rk (mirror (arrOf z) (x-(q+1)) x<|(x-(x-(q+1)))/2) i;rw[OX 01 T,OX 01 T];show J i j Y Z
   .dsimp[S,if_true,if_false];show wpS_pure ⟨B,0,rfl,01,J,λi g1 g2=>by rw[show i=x+1-1 by omega]⟩
  .rw[decide_eq_false lt];dsimp[xB,if_false];refine wpS_bind (B6 L B 01 01 ?_);dsimp only;by_cases O:Rk rk (arrOf z) (x-1)<Rk rk (arrOf z) x
   .rw[decide_eq_true O];show wpS_pure (h x q z B h1 01 hq D T)
   .rw[decide_eq_false O];dsimp[xB,if_false];have ex:Rk rk (arrOf z) x=Rk rk (arrOf z) (x-1):=01
    refine wpS_pure ⟨B,q+1,rfl,nH hq,zRe D<|WE ex,λi g1 g2=>?_⟩;by_cases c:i=x
    .rw[c];rfl
    .rw[T i 01<|01,show x+1-1=x by omega,ex]
 .rintro c z ⟨B,q,rfl,hq,D,T⟩;rw[show max a n=n by omega]at hq D T ⊢;show h n q z B U (rA _) hq D T
theorem zRg{st:SortSt}{a n:Nat}{Q:Option Nat->SortSt->Prop}(I:n<=a0.size)(U:a<n)(B:kK kd a0 st)(D:mW rk (arrOf st) (a+1))(h:∀k z,kK kd a0 z->1<=k->k<=n->vL rk (arrOf z) k->Q (some k) z):wpS (model prog w) A E s (descPart a n) Q st:=by
 unfold descPart;refine wpS_bind<|wpS_lift<|wpAny_rule ⟨rfl,?_⟩;refine wpS_bind (zV9 L I 01 01 B D λk q z B h1 h2 hq D T=>?_);have hz:=B.sz;dsimp only;by_cases J:GT.gt q 0
 .dsimp[J,if_true];refine wpS_bind (wpS_reverse<|zRf L I 01 h2 (B.put<|mirror_perm ..) (λi j O S=>?_) h);change Rk rk (mirror (arrOf z) (k-(q+1)) k<|(k-(k-(q+1)))/2) j<=Rk rk (mirror (arrOf z) (k-(q+1)) k<|(k-(k-(q+1)))/2) i;rw[OX 01 T,OX 01 T];show D i j O S
 .dsimp[J,if_false];show zRf L I 01 h2 B D h
theorem A4{st:SortSt}{n:Nat}{Q:Option Nat->SortSt->Prop}(I:n<=a0.size)(h0:1<=n)(B:kK kd a0 st)(h:∀k z,kK kd a0 z->1<=k->k<=n->vL rk (arrOf z) k->Q (some k) z):wpS (model prog w) A E s (countRun' 0 n) Q st:=by
 have hz:=B.sz;rw[countRun0_eq];refine wpS_bind (zV8 L I (rA _) h0 B (λi j J O=>by rw[show i=j by omega];show rA _) λk h1 h2 U c=>?_);dsimp only;by_cases e:k=n
 .rw[if_pos<|by simpa using e];show wpS_pure<|h k st B h1 h2 U
 .rw[if_neg<|by simpa using e];have lt:=c.resolve_left e;by_cases o:GT.gt k 1
  .rw[if_pos o];refine wpS_bind (B6 L B 01 01 ?_);dsimp only;by_cases r:Rk rk (arrOf st) 0<Rk rk (arrOf st) (k-1)
   .rw[decide_eq_true r];show wpS_pure<|h k st B h1 h2 U
   .rw[decide_eq_false r];dsimp[xB,if_false]
    have al:∀i,0<=i->i<k->Rk rk (arrOf st) i=Rk rk (arrOf st) (k-1):=λi _ hi=>by
     have:=U 0 i 01 hi;have:=U i (k-1) 01 01;omega
    refine wpS_bind (wpS_reverse<|zRg L I 01 (B.put<|mirror_perm ..) (λi j J O=>?_) h);change Rk rk (mirror (arrOf st) 0 k<|(k-0)/2) j<=Rk rk (mirror (arrOf st) 0 k<|(k-0)/2) i;rw[OX 01 al,OX 01 al];by_cases c:j=k
    .by_cases d:i=j
     .rw[d];show rA _
     .rw[al i 01<|01,c];omega
    .rw[al i 01<|01,al j 01<|01];show rA _
  .rw[if_neg o];refine zRg L I 01 B (λi j J O=>?_) h;have k1:k=1:=01
   subst k1;by_cases d:i=j
   .rw[d];show rA _
   .rw[show j=1 by omega,show i=0 by omega];show kE lt
theorem j4{st:SortSt}{n ok:Nat}{Q:Bool->SortSt->Prop}(hn:n<=a0.size)(h1:1<=ok)(hok:ok<=n)(B:kK kd a0 st)(U:vL rk (arrOf st) ok)(h:∀z,kK kd a0 z->vL rk (arrOf z) n->Q true z):wpS (model prog w) A E s (binarySort' 0 n ok) Q st:=by
 rw[binarySort'_eq];dsimp[LH,show max ok 1=ok by omega];refine wpS_bind (wpS_mono (wpS_forRange (I:=λk c z=>c=(none,())/\kK kd a0 z/\vL rk (arrOf z) k) (Q:=λc z=>c=(none,())/\kK kd a0 z/\vL rk (arrOf z) n) ?_ ?_ ⟨rfl,B,U⟩) ?_)
 .rintro k c z g1 g2 ⟨rfl,B,U⟩;have hz:=B.sz
  refine wpS_bind (wpS_mono (wpS_forRange (I:=λx c y=>y=z/\∃l r,c=(none,l,r)/\l<=r/\r<=k/\r-l<=k-x/\(∀i,i<l->Rk rk (arrOf z) i<=Rk rk (arrOf z) k)/\∀i,r<=i->i<k->Rk rk (arrOf z) k<Rk rk (arrOf z) i)
   (Q:=λc y=>y=z/\∃l r,c=(none,l,r)/\l<=k/\(∀i,i<l->Rk rk (arrOf z) i<=Rk rk (arrOf z) k)/\∀i,l<=i->i<k->Rk rk (arrOf z) k<Rk rk (arrOf z) i) ?_ ?_ ⟨rfl,0,k,rfl,01,01,01,λi hi=>01,λi a b=>01⟩) ?_)
  .rintro x c y Z e2 ⟨rfl,l,r,rfl,q1,O,S,lo,hi⟩;dsimp only;by_cases J:l>=r
   .rw[if_pos J];show wpS_pure ⟨rfl,l,r,rfl,01,lo,λi a b=>hi i 01 b⟩
   .rw[if_neg J];refine wpS_bind (B6 L B 01 01 ?_);dsimp only;by_cases lt:Rk rk (arrOf y) k<Rk rk (arrOf y) ((l+r)/2)
    .rw[decide_eq_true lt];show wpS_pure ⟨rfl,l,(l+r)/2,rfl,01,01,01,lo,λi a b=>DA lt<|U _ _ a b⟩
    .rw[decide_eq_false lt];show wpS_pure ⟨rfl,(l+r)/2+1,r,rfl,01,01,01,λi a=>vA (U i ((l+r)/2) 01<|01)<|01,hi⟩
  .rintro c y ⟨rfl,l,r,rfl,q1,O,S,lo,hi⟩;show⟨rfl,l,r,rfl,01,lo,λi a b=>hi i 01 b⟩
  .rintro c y ⟨rfl,l,r,rfl,q1,lo,hi⟩;dsimp only;rw[moveDown'_eq];refine wpS_bind (wpS_modify<|wpS_pure ⟨rfl,B.put<|bubble_perm ..,λi j Y hj=>?_⟩);change Rk rk (bubble (arrOf y) k<|k-l) i<=Rk rk (bubble (arrOf y) k<|k-l) j;rw[zRd 01<|01,zRd 01<|01,show k-(k-l)=l by omega]
   repeat' split
   all_goals first
    |(exfalso;omega)
    |show rA _
    |show lo _ 01
    |show kE (hi _ 01<|01)
    |show U _ _ 01 01
 .rintro c z ⟨rfl,B,U⟩;rw[show max ok n=n by omega]at U;show⟨rfl,B,U⟩
 .rintro c z ⟨rfl,B,U⟩;show wpS_pure<|h z B U
theorem zWA{st:SortSt}{Q:Unit->SortSt->Prop}(B:kK kd a0 st)(h2:2<=a0.size)(kR:a0.size<64)(h:∀z,(arrOf z).Perm a0->eL z=none->vL rk (arrOf z) a0.size->Q () z):wpS (model prog w) A E s sortRuns' Q st:=by
 have Y:minRun' a0.size a0.size 0=a0.size:=by
  cases e:a0.size with
  |zero=>omega
  |succ f=>rw[minRun'_succ,if_pos<|01]
 have dn:∀{z:SortSt},kK kd a0 z->vL rk (arrOf z) a0.size->(arrOf z).Perm a0/\eL z=none/\(pendingOf z).push (0,a0.size,0) = #[(0,a0.size,0)]/\vL rk (arrOf z) a0.size:=λB U=>⟨B.pm,B.fl,by rw[B.pd];rfl,U⟩
 rw[sortRuns'_eq];refine wpS_bind<|wpS_get ?_;dsimp[B.sz,Y]
 refine wpS_bind (wpS_mono (wpS_forRange (I:=λx c z=>if x=0 then c=(none,0)/\kK kd a0 z else c=(none,a0.size)/\(arrOf z).Perm a0/\eL z=none/\pendingOf z = #[(0,a0.size,0)]/\vL rk (arrOf z) a0.size)
  (Q:=λc z=>c=(none,a0.size)/\(arrOf z).Perm a0/\eL z=none/\pendingOf z = #[(0,a0.size,0)]/\vL rk (arrOf z) a0.size) ?_ ?_ ⟨rfl,B⟩) ?_)
 .intro x c z _ hx I;by_cases J:x=0
  .rw[if_pos J]at I;obtain⟨rfl,B⟩:=I;dsimp only;rw[if_neg<|01];dsimp[O7,M7,LH];refine wpS_bind (A4 L (rA _) 01 B λk y B h1 h2 U=>?_);dsimp only;by_cases lt:k<a0.size
   .rw[if_pos lt];refine wpS_bind<|wpS_lift<|wpAny_rule ⟨rfl,?_⟩;refine wpS_bind (j4 L (rA _) h1 h2 B U λy B U=>?_);dsimp[oM,xB,if_false];refine wpS_bind<|wpS_get ?_;rw[B.pd];show wpS_bind (wpS_modify<|wpS_pure (by dsimp only;rw[if_neg<|01];show⟨rfl,dn B U⟩))
   .rw[if_neg lt];have S:k=a0.size:=01
    subst S;refine wpS_bind<|wpS_get ?_;rw[B.pd];show wpS_bind (wpS_modify<|wpS_pure (by dsimp only;rw[if_neg<|01];show⟨rfl,dn B U⟩))
  .rw[if_neg J]at I;obtain⟨rfl,I⟩:=I;dsimp only;rw[if_pos<|rA _];show wpS_pure ⟨rfl,I⟩
 .intro c z I
  rwa [if_neg<|01]at I
 .rintro c z ⟨rfl,p1,p2,p3,Z⟩;dsimp only;refine wpS_bind (wpS_mono (wpS_forRange (I:=λ_ c y=>y=z/\c=(none,())) (Q:=λc y=>y=z/\c=(none,())) ?_ (λ_ _ q=>q) ⟨rfl,rfl⟩) ?_)
  .rintro x c y _ _ ⟨rfl,rfl⟩;refine wpS_bind<|wpS_get ?_;rw[if_pos (by rw[p3];show rA 1)];show wpS_pure ⟨rfl,rfl⟩
  .rintro c y ⟨rfl,rfl⟩;show wpS_pure<|h y p1 p2 Z
end
def gU(a:Addr)(s z:Shared):Prop:=∃h,z={ s with heap:=h }/\∀b o,b≠a->s.heap.get? b>o->h.get? b>o
section
variable {prog:Program}{w:World}{A:Around}{E:vD}{s:Shared}{kd:SortKind}{rk:Value->Nat}{vs:List Value}
theorem zTZ{P:Fin->Shared->Prop}(J:s.heap.get? a>seqObj "list" vs.toArray n)(kR:vs.length<64)(Y:2<=vs.length->∀z,gU a s z->∀{Q:SortKind->Shared->Prop}{E:vD},Q kd z->wpAny (model prog w) A (keyKind' vs.toArray) Q E z)(Z:∀z,gU a s z->Tf prog w A z kd (pairsOf vs) rk)(h:∀xs:Array Keyed,xs.Perm (pairsOf vs)->vL rk xs (pairsOf vs).size->P (.done<|.ret .none) { s with heap:=JW s.heap a vs (xs.map (·.2)) }):
  wpAny (model prog w) A (Builtin.«list.sort» ⟨[.ref a],[]⟩) P E s:=by
 have lt:a<s.heap.objs.size:=GA J;rw[list_sort_plain];refine wpAny_bind<|listItems_at J rfl<|wpAny_bind<|listUpdate_at J rfl ?_;have U:=get?_update_seq J (λ_=>#[]);refine wpAny_bind<|seqEpoch_at U rfl<|wpAny_bind<|wpAny_newTuple<|wpAny_bind<|wpAny_newList<|wpAny_holding ?_;dsimp only;have S:∀b o,(s.heap.update a<|YC λ_=>#[]).get? b>o->(((s.heap.update a<|YC λ_=>#[]).push<|seqObj "tuple" vs.toArray 0).push<|seqObj "list" #[] 0).get? b>o:=λb o e=>oA _<|oA _ e
 have O:=S _ _ U;have I:gU a s { s with heap:=((s.heap.update a<|YC λ_=>#[]).push<|seqObj "tuple" vs.toArray 0).push (seqObj "list" #[] 0) }:=⟨_,rfl,λb o nb e=>S b o (by rw[DO _ _ _ _ nb];show e)⟩
 have sz:vs.toArray.size=vs.length:=by simp
 have fin:∀xs:Array Keyed,xs.Perm (pairsOf vs)->(xs.map (·.2)).size<=sizeLine+1:=λxs p=>by
  rw[Array.size_map,p.size_eq,pairsOf_size,sizeLine_eq];omega
 by_cases c:vs.toArray.size<2
 .rw[if_pos c,if_pos c];refine wpAny_bind<|wpAny_pure ?_;rw[StateT.run_pure];refine wpAny_bind<|wpAny_pure ?_;refine wpAny_bind<|seqEpoch_at O rfl<|wpAny_bind<|listUpdate_at O rfl ?_ (hsz2:=fin _<|WI _);dsimp[bne_self_eq_false,xB,if_false];refine wpAny_pure (h (pairsOf vs) (WI _) λi j dM hj=>?_);rw[pairsOf_size]at hj;rw[show i=j by omega];show rA _
 .rw[if_neg c,if_neg c];refine wpAny_bind (Y 01 _ I ?_);refine wpAny_bind (wpAny_mono (zWA (Z _ I) (a0:=pairsOf vs) (Q:=λ_ z=>(arrOf z).Perm (pairsOf vs)/\eL z=none/\vL rk (arrOf z) (pairsOf vs).size) ⟨WI _,rfl,rfl,rfl⟩ (by rw[pairsOf_size];omega) (by rw[pairsOf_size];show kR) λz a b c=>⟨a,b,c⟩) ?_ λ_ _ e=>e);rintro⟨⟨⟩,z⟩ s' ⟨rfl,p,f,u⟩;refine wpAny_bind<|seqEpoch_at O rfl<|wpAny_bind<|listUpdate_at O rfl ?_ (hsz2:=fin _ p);rw[f];dsimp[bne_self_eq_false,xB,if_false];show wpAny_pure<|h _ p u
theorem zN2{o:Obj}{Q:List Value->Shared->Prop}(hc:c = "list"\/c = "tuple")(j:s.heap.get? l>o)(cl:o.cls=.type c)(hd:o.data=.seq vs.toArray n)(sz:vs.length<=sizeLine)(h:Q vs { s with heap:=(s.heap.push<|seqObj "list" #[] 0).update s.heap.objs.size (YC (· ++ vs.toArray)) }):wpAny (model prog w) A (collect<|.ref l) Q E s:=by
 unfold collect;refine wpAny_bind<|wpAny_runValue<|codeAny_builtin entry_proto_collect' ?_;change wpAny _ _ (do again (.builtin "list.__iadd__" ⟨[<- newList [],.ref l],[]⟩)) _ _ s;refine wpAny_bind (wpAny_newList<|wpAny_pure ⟨Code.quiet_builtin _<|by decide +kernel,codeAny_builtin entry_list_iadd' ?_⟩);change wpAny _ _ (NI (.ref s.heap.objs.size) (.ref l)<|.ref s.heap.objs.size) _ _ { s with heap:=s.heap.push (seqObj "list" #[] 0) };unfold NI;have o':(s.heap.push<|seqObj "list" #[] 0).get? l>o:=oA _ j;refine wpAny_bind<|wpAny_typeOf (T:=c) ⟨o,o',cl⟩ ?_;have tt:(bE "list" == bE "list")=true:=rfl;have z:(bE "tuple" == bE "tuple")=true:=rfl;rw[if_pos (by rcases hc with rfl|rfl<;>dsimp[tt,z,fN,rJ])];refine wpAny_bind<|listItems_at o' hd<|wpAny_bind<|listItems_at (xs:=#[]) (n:=0) (KA _ rfl) rfl ?_;rw[if_neg<|by simp];refine wpAny_bind (listUpdate_at (xs:=#[]) (n:=0) (KA _ rfl) rfl (wpAny_pure ?_) (EB _) (by simp;omega));dsimp only;refine wpAny_bind<|wpAny_load (get?_update_seq (KA _ rfl) _) ?_;dsimp only[YC];rw[show((#[]:Array Value)++vs.toArray).toList=vs by simp];show wpAny_pure h
theorem zQL{o:Obj}{Q:vD}(hc:c = "list"\/c = "tuple")(O:s.heap.get? l>o)(cl:o.cls=.type c)(hd:o.data=.seq vs.toArray n)(S:vs.length<64)(I:2<=vs.length->∀(A:Around) h',(∀b o,s.heap.get? b>o->h'.get? b>o)->∀{Q:SortKind->Shared->Prop}{E:vD},Q kd { s with heap:=h' }->wpAny (model prog w) A (keyKind' vs.toArray) Q E { s with heap:=h' })(J:∀(A:Around) h',(∀b o,s.heap.get? b>o->h'.get? b>o)->Tf prog w A { s with heap:=h' } kd (pairsOf vs) rk)(h:∀xs:Array Keyed,xs.Perm (pairsOf vs)->vL rk xs (pairsOf vs).size->Q (.ref<|s.heap.objs.size+1) { s with heap:=Q7 s.heap vs (xs.map (·.2)) }):
  wpAny (model prog w) A (call (.builtin "sorted") [.ref l]) Q E s:=by
 refine AL kind_sorted plain_sorted entry_sorted (args_sorted1 _) ?_;unfold Builtin.«sorted»;refine wpAny_bind (m:=checkCount "sorted" 1 1 _)<|wpAny_pure ?_;refine wpAny_bind (zN2 hc O cl hd (by rw[sizeLine_eq];omega)<|wpAny_bind<|wpAny_newList ?_);have sz:((s.heap.push<|seqObj "list" #[] 0).update s.heap.objs.size (YC (· ++ vs.toArray))).objs.size=s.heap.objs.size+1:=by rw[Heap.size_update,size_push']
 have j:(((s.heap.push<|seqObj "list" #[] 0).update s.heap.objs.size (YC (· ++ vs.toArray))).push<|seqObj "list" vs.toArray 0).get? (s.heap.objs.size+1)>seqObj "list" vs.toArray 0:=by
  rw[<- sz];show KA _ rfl
 have up:∀b o,s.heap.get? b>o->b≠s.heap.objs.size+1/\(((s.heap.push<|seqObj "list" #[] 0).update s.heap.objs.size (YC (· ++ vs.toArray))).push<|seqObj "list" vs.toArray 0).get? b>o:=λb o e=>by
  have lt:=GA e;refine⟨OA<|JJ lt,oA _ ?_⟩;rw[DO _ _ _ _<|OA lt];show oA _ e
 dsimp only;dsimp[sz];refine wpAny_bind (wpAny_holding<|wpAny_call_entry slot_list_sort ⟨_,j,rfl⟩ Dc (zTZ (kd:=kd) (rk:=rk) j S (λg z ok=>?_) (λz ok=>?_) λxs p u=>⟨_,rfl,wpAny_pure ⟨_,rfl,h xs p u⟩⟩)<|args_list_sort _)
 .obtain⟨h',rfl,k⟩:=ok;show I g _ h' λb o q=>k b o (up b o q).1 (up b o q).2
 .obtain⟨h',rfl,k⟩:=ok;show J _ h' λb o q=>k b o (up b o q).1 (up b o q).2
end
abbrev Tk:=Str×Int×Int×Str
noncomputable def IT{α β:Type}[DecidableEq α](r:α->α->Bool)(q:β->β->Bool)(x y:α×β):Bool:=if x.1=y.1 then q x.2 y.2 else r x.1 y.1
noncomputable def J8(x y:Str):Bool:=decide<|x.cps.toList<y.cps.toList
noncomputable def ltN(x y:Int):Bool:=decide<|x<y
def CN:Tk->Tk->Bool:=IT J8<|IT ltN<|IT ltN J8
def GM(h:Heap)(v:Value)(k:Tk):Prop:=∃a o n t1 t2 t3 t4,v=.ref a/\h.get? a>o/\o.cls=.type "tuple"/\o.data=.seq #[.str k.1 t1,.int k.2.1 t2,.int k.2.2.1 t3,.str k.2.2.2 t4] n
theorem zL5(b:Bool)(x y:Value):keyLt' (tuples' b) x y=(do
  let xs <- XF x
  let ys <- XF y
  for ((p,q),i) in (xs.toList.zip ys.toList).zipIdx do
   if !(<- eqBool p q) then return <- oneLt' (b&&i==0) p q
  return xs.size<ys.size):=rfl
section
variable {prog:Program}{w:World}{A:Around}{E:vD}{s:Shared}
theorem zN3(b:Bool){Q:Bool->Shared->Prop}(h:Q (decide<|i<j) s):wpAny (model prog w) A (oneLt' b (.int i t)<|.int j u) Q E s:=by
 cases b with
 |true=>show oneLt_int h
 |false=>
  rw[oneLt'_eq];show wpAny_bind<|lt_int<|wpAny_truthy_bool h
theorem zN4(b:Bool){x y:Str}{Q:Bool->Shared->Prop}(h:Q (decide<|x.cps.toList<y.cps.toList) s):wpAny (model prog w) A (oneLt' b (.str x t)<|.str y u) Q E s:=by
 cases b with
 |true=>show oneLt_str h
 |false=>
  rw[oneLt'_eq];show wpAny_bind<|lt_str<|wpAny_truthy_bool h
theorem zTa{Q:Bool->Shared->Prop}(hx:GM s.heap x k)(hy:GM s.heap y l)(h:Q (CN k l) s):wpAny (model prog w) A (keyLt' (tuples' true) x y) Q E s:=by
 obtain⟨a,o,n,t1,t2,t3,S,rfl,O,_,hd⟩:=hx;obtain⟨b,p,m,U,Y,Z,u4,rfl,hp,_,he⟩:=hy;rw[zL5];refine wpAny_bind<|listItems_at O hd<|wpAny_bind<|listItems_at hp he ?_;dsimp[List.zip_cons_cons,List.zip_nil_right,List.zipIdx_cons,List.zipIdx_nil,IH,YF];dsimp[CN,IT,J8,ltN]at h;refine wpAny_bind<|wpAny_bind<|wpAny_bind<|wpAny_eqBool_str ?_;by_cases c1:k.1=l.1
 .rw[if_pos c1]at h;rw[decide_eq_true c1];refine wpAny_pure<|wpAny_bind<|wpAny_bind<|wpAny_eqBool_int ?_;by_cases j:k.2.1=l.2.1
  .rw[if_pos j]at h;rw[show(k.2.1==l.2.1)=true from beq_iff_eq.mpr j];refine wpAny_pure<|wpAny_bind<|wpAny_bind<|wpAny_eqBool_int ?_;by_cases z:k.2.2.1=l.2.2.1
   .rw[if_pos z]at h;rw[show(k.2.2.1==l.2.2.1)=true from beq_iff_eq.mpr z];refine wpAny_pure<|wpAny_bind<|wpAny_bind<|wpAny_eqBool_str ?_;by_cases I:k.2.2.2=l.2.2.2
    .rw[I,decide_eq_false<|eI _]at h;rw[decide_eq_true I];show wpAny_pure<|wpAny_pure<|wpAny_pure h
    .rw[decide_eq_false I];show wpAny_bind<|zN4 _<|wpAny_pure<|wpAny_pure<|wpAny_pure h
   .rw[if_neg z]at h;rw[show(k.2.2.1==l.2.2.1)=false from beq_eq_false_iff_ne.mpr z];show wpAny_bind<|zN3 _<|wpAny_pure<|wpAny_pure<|wpAny_pure h
  .rw[if_neg j]at h;rw[show(k.2.1==l.2.1)=false from beq_eq_false_iff_ne.mpr j];show wpAny_bind<|zN3 _<|wpAny_pure<|wpAny_pure<|wpAny_pure h
 .rw[if_neg c1]at h;rw[decide_eq_false c1];show wpAny_bind<|zN4 _<|wpAny_pure<|wpAny_pure<|wpAny_pure h
theorem zL6(v:Value):firstOfTuple' v=(do
  if (<- typeOf v) != .type "tuple" then return none
  return (<- XF v)[0]?):=rfl
abbrev Tks(h:Heap):List Value->List Tk->Prop:=Paired<|GM h
theorem zN5:∀{vs:List Value}{ks:List Tk}{Q:List (Option Value)->Shared->Prop},Tks s.heap vs ks->(∀us,uQ us (ks.map (·.1))->Q (us.map some) s)->wpAny (model prog w) A (vs.mapM firstOfTuple') Q E s
 |_,_,_,.nil,h=>by rw[List.mapM_nil];show wpAny_pure<|h [] .nil
 |_,_,_,.cons (b:=k) z r,h=>by
  obtain⟨a,o,n,t1,t2,t3,J,e,j,hc,hd⟩:=z;subst e;rw[List.mapM_cons,zL6];refine wpAny_bind ?_;refine wpAny_bind<|wpAny_typeOf (T:="tuple") ⟨o,j,hc⟩ ?_;rw[show(bE "tuple" != bE "tuple")=false from rfl];refine wpAny_bind (listItems_at j hd<|wpAny_pure<|wpAny_bind<|zN5 r λus I=>wpAny_pure<|h (.str k.1 t1::us)<|.cons _ _ I)
theorem zWB{vs:List Value}{Q:SortKind->Shared->Prop}(hk:Tks s.heap vs ks)(h2:2<=vs.length)(h:Q (tuples' true) s):wpAny (model prog w) A (keyKind' vs.toArray) Q E s:=by
 rw[keyKind'_eq,sQ];refine wpAny_bind (wpAny_map<|zN5 hk λus j=>?_);have a1:((us.map some).toArray.all λx=>x.isSome)=true:=by simp
 have a2:(us.map some).toArray.filterMap id=us.toArray:=by simp
 rw[if_pos a1,a2,oneTypeOnly'_eq,sQ,mapM_typeOf_strs j];refine wpAny_bind<|wpAny_rule<|wpAny_bind<|wpAny_bind<|wpAny_map<|wpAny_pure ?_
 cases hk with
 |nil=>show absurd h2 (by simp)
 |cons _ _=>
  cases j with
  |cons x t r=>
   dsimp[eA];refine wpAny_pure ?_;simp;show wpAny_pure h
end
structure dR{α:Type}(r:α->α->Bool):Prop where
 ir:∀a,r a a=false
 tr:∀a b c,r a b=true->r b c=true->r a c=true
 tt:∀a b,r a b=false->r b a=false->a=b
theorem dR.lex{α j:Type}[DecidableEq α]{r:α->α->Bool}{q:j->j->Bool}(R:dR r)(S:dR q):dR (IT r q):=by
 refine⟨λa=>?_,λa b c h k=>?_,λa b h k=>?_⟩
 .unfold IT;rw[if_pos rfl];show S.ir _
 .unfold IT at *;by_cases e:a.1=b.1
  .rw[if_pos e]at h;by_cases f:b.1=c.1
   .rw[if_pos f]at k;rw[if_pos<|e.trans f];show S.tr _ _ _ h k
   .rw[if_neg f]at k;rw[if_neg<|e ▸ f,e];show k
  .rw[if_neg e]at h;by_cases f:b.1=c.1
   .rw[if_neg<|f ▸ e,<- f];show h
   .rw[if_neg f]at k;have t:=R.tr _ _ _ h k;rw[if_neg λz=>?_]
    .show t
    .rw[z,R.ir]at t;cases t
 .unfold IT at *;by_cases e:a.1=b.1
  .rw[if_pos e]at h;rw[if_pos e.symm]at k;show Prod.ext e<|S.tt _ _ h k
  .rw[if_neg e]at h;rw[if_neg λz=>e z.symm]at k;show absurd (R.tt _ _ h k) e
theorem zWC:dR J8:=by
 refine⟨λa=>decide_eq_false<|eI _,λa b c h k=>decide_eq_true<|CW (of_decide_eq_true h)<|of_decide_eq_true k,λa b h k=>?_⟩;have e:=fH (HD.mp<|of_decide_eq_false k)<|HD.mp<|of_decide_eq_false h;cases a;cases b;dsimp[sM];show FJ.mp e
theorem zWD:dR ltN:=⟨λa=>decide_eq_false<|Int.lt_irrefl _,λa b c h k=>decide_eq_true<|Int.lt_trans (of_decide_eq_true h)<|of_decide_eq_true k,λa b h k=>WT (iJ.mp<|of_decide_eq_false k)<|iJ.mp<|of_decide_eq_false h⟩
theorem xT:dR CN:=zWC.lex<|zWD.lex<|zWD.lex zWC
section
variable {α:Type}{r:α->α->Bool}(R:dR r)
include R
theorem dR.rank(l:List α)(ha:a∈l):decide ((l.filter λx=>r x a).length<(l.filter λx=>r x b).length)=r a b:=by
 have le:∀{a b:α},(∀x,r x a=true->r x b=true)->∀l:List α,(l.filter λx=>r x a).length<=(l.filter λx=>r x b).length:=λ{a b} h l=>by
  induction l with
  |nil=>show rA _
  |cons x l ih=>
   rw[xD,xD];by_cases c:r x a=true
   .rw[if_pos c,if_pos<|h x c];show nH ih
   .rw[if_neg c];split
    .show ZQ ih
    .show ih
 cases e:r a b with
 |true=>
  refine decide_eq_true ?_;have h:∀x,r x a=true->r x b=true:=λx q=>R.tr _ _ _ q e
  induction l with
  |nil=>cases ha
  |cons x l ih=>
   rw[xD,xD];rcases lA.mp ha with rfl|ha
   .rw[if_neg (by rw[R.ir];simp),if_pos e];show Nat.lt_succ_of_le<|le h l
   .by_cases c:r x a=true
    .rw[if_pos c,if_pos<|h x c];show Nat.succ_lt_succ<|ih ha
    .rw[if_neg c];split
     .show JJ<|ih ha
     .show ih ha
 |false=>
  refine decide_eq_false (UL.mpr<|le (λx q=>?_) l)
  cases f:r b a with
  |true=>show R.tr _ _ _ q f
  |false=>rw[R.tt _ _ e f];show q
end
noncomputable def xK(k:Tk):D:=.tup [.str k.1,.int k.2.1,.int k.2.2.1,.str k.2.2.2]
noncomputable def nW(x:Tk):List Tk->List Tk
 | []=>[x]
 |y::ys=>if CN y x then y::nW x ys else x::y::ys
noncomputable def aO:List Tk->List Tk
 | []=>[]
 |x::xs=>nW x<|aO xs
noncomputable def cY:D->List D
 |.lst xs=>xs
 |.tup xs=>xs
 |_=>[.non]
def EN(d:D):Option (List D):=open Classical in if h:∃ks:List Tk,cY d=ks.map xK/\ks.length<64 then some ((aO h.choose).map xK) else none
theorem zTc(h:xK a=xK b):a=b:=by
 obtain⟨a1,a2,j,z⟩:=a;obtain⟨b1,b2,b3,I⟩:=b;cases h;rfl
theorem zIv{ks:List Tk}(e:cY d=ks.map xK)(l:ks.length<64):EN d>(aO ks).map xK:=by
 have h:∃ks:List Tk,cY d=ks.map xK/\ks.length<64:=⟨ks,e,l⟩
 unfold EN;rw[dif_pos h,(oP λa b=>zTc).mp<|h.choose_spec.1.symm.trans e]
theorem zJz(e:EN d>ys):∃ks:List Tk,cY d=ks.map xK/\ks.length<64/\ys=(aO ks).map xK:=by
 unfold EN at e;by_cases h:∃ks:List Tk,cY d=ks.map xK/\ks.length<64
 .rw[dif_pos h]at e;show⟨_,h.choose_spec.1,h.choose_spec.2,(DB e).symm⟩
 .rw[dif_neg h]at e;cases e
theorem Oe(x:Tk):∀xs,(nW x xs).Perm (x::xs)
 | []=>.refl _
 |y::ys=>by
  unfold nW;split
  .show((Oe x ys).cons y).trans (.swap x y ys)
  .show .refl _
theorem M9:∀xs,(aO xs).Perm xs
 | []=>.refl _
 |x::xs=>(Oe x _).trans<|(M9 xs).cons x
def NP(a b:Tk):Prop:=CN b a=false
theorem zWE(h:NP a b)(k:NP b c):NP a c:=by
 unfold NP at *
 cases e:CN c a with
 |false=>rfl
 |true=>
  cases f:CN a b with
  |true=>rw[xT.tr _ _ _ e f]at k;cases k
  |false=>rw[xT.tt _ _ f h]at e;rw[e]at k;cases k
theorem zWF(h:CN a b=true):NP a b:=by
 unfold NP
 cases e:CN b a with
 |false=>rfl
 |true=>have:=xT.tr _ _ _ h e;rw[xT.ir]at this;cases this
theorem zN6(x:Tk):∀xs:List Tk,xs.Pairwise NP->(nW x xs).Pairwise NP
 | [],_=>by unfold nW;simp
 |y::ys,h=>by
  obtain⟨h1,h2⟩:=MA.mp h;unfold nW;split
  .rename_i q;refine MA.mpr ⟨λz hz=>?_,zN6 x ys h2⟩;rcases lA.mp ((Oe x ys).mem_iff.mp hz) with rfl|hz
   .show zWF q
   .show h1 z hz
  .rename_i q;have q':NP x y:=by simpa[NP] using q
   refine MA.mpr ⟨λz hz=>?_,h⟩;rcases lA.mp hz with rfl|hz
   .show q'
   .show zWE q'<|h1 z hz
theorem Am:∀xs,(aO xs).Pairwise NP
 | []=>.nil
 |x::xs=>zN6 x _<|Am xs
theorem zQM{α I:Type}{F:α->I->Prop}{us z:List α}(p:z.Perm us):∀{ks:List I},Paired F us ks->∃j,j.Perm ks/\Paired F z j:=by
 induction p with
 |nil=>showλh=>⟨_,.refl _,h⟩
 |cons x _ ih=>
  intro ks h
  cases h with
  |cons a r=>obtain⟨j,p,q⟩:=ih r;show⟨_,p.cons _,.cons a q⟩
 |swap x y l=>
  intro ks h
  cases h with
  |cons a r=>cases r with
   |cons b r=>show⟨_,.swap _ _ _,.cons b<|.cons a r⟩
 |trans _ _ J i2=>
  intro ks h;obtain⟨k1,p1,q1⟩:=i2 h;obtain⟨k2,p2,O⟩:=J q1;show⟨k2,p2.trans p1,O⟩
theorem zN7{α j:Type}{F:α->j->Prop}:∀{us:List α}{ks:List j}{i:Nat}{k:j},Paired F us ks->ks[i]?>k->∃u,us[i]?>u/\F u k
 |_,_,_,_,.nil,e=>by simp at e
 |_,_,0,_,.cons a r,e=>by simp at e;subst e;show⟨_,rfl,a⟩
 |_,_,i+1,_,.cons a r,e=>by obtain⟨u,z,I⟩:=zN7 (i:=i) r ‹e›;show⟨u,‹z›,I⟩
theorem zRi(a:GM h v k)(b:GM h v l):k=l:=by
 obtain⟨a,o,n,t1,t2,t3,O,rfl,j,_,hd⟩:=a;obtain⟨b,p,m,S,U,Y,Z,e,hp,_,he⟩:=b;obtain⟨k1,k2,k3,z⟩:=k;obtain⟨l1,l2,I,J⟩:=l;cases e;cases j.symm.trans hp;cases hd.symm.trans he;rfl
theorem zN8{α j:Type}{F:α->j->Prop}{us:List α}{ks:List j}{u:α}(r:Paired F us ks)(e:u∈us):∃k∈ks,F u k:=by
 induction r with
 |nil=>cases e
 |cons a r ih=>
  rcases lA.mp e with rfl|e
  .show⟨_,gA,a⟩
  .obtain⟨k,hk,f⟩:=ih e;show⟨k,bA _ hk,f⟩
theorem GM.up{h h':Heap}(u:∀b o,h.get? b>o->h'.get? b>o)(v:Value)(k:Tk)(a:GM h v k):GM h' v k:=by
 obtain⟨a,o,n,t1,t2,t3,z,e,j,r⟩:=a;show⟨a,o,n,t1,t2,t3,z,e,u _ _ j,r⟩
def PX(h:Heap)(v:Value):Tk:=open Classical in if e:∃k,GM h v k then e.choose else (⟨#[]⟩,0,0,⟨#[]⟩)
theorem zQN(a:GM h v k):PX h v=k:=by
 unfold PX;rw[dif_pos ⟨k,a⟩];show zRi (Exists.choose_spec _) a
section
variable {prog:Program}{w:World}{A:Around}{E:vD}{s:Shared}{vs:List Value}
theorem zTd{o:Obj}{Q:vD}(hc:c = "list"\/c = "tuple")(ho:s.heap.get? l>o)(cl:o.cls=.type c)(hd:o.data=.seq vs.toArray n)(kR:vs.length<64)(hk:Tks s.heap vs ks)(h:∀out:Array Value,out.toList.Perm vs->Tks s.heap out.toList (aO ks)->Q (.ref<|s.heap.objs.size+1) { s with heap:=Q7 s.heap vs out }):wpAny (model prog w) A (call (.builtin "sorted") [.ref l]) Q E s:=by
 have rank:∀{v:Value}{k:Tk},GM s.heap v k->(ks.filter λx=>CN x<|PX s.heap v).length=(ks.filter λx=>CN x k).length:=λa=>by rw[zQN a]
 have pm:∀p∈(pairsOf vs).toList,p.1=p.2/\∃k∈ks,GM s.heap p.1 k:=λp hp=>by
  rw[Ud]at hp;obtain⟨e,m⟩:=mem_zip_self hp;show⟨e,zN8 hk m⟩
 refine zQL (kd:=tuples' true) (rk:=λv=>(ks.filter λx=>CN x<|PX s.heap v).length) hc ho cl hd kR (λh2 A h' u {Q E} q=>zWB (L2.Paired.imp' (GM.up u) hk) h2 q) (λA h' u p hp q hq {Q E} z=>?_) λxs px ux=>?_
 .obtain⟨_,k,mk,tk⟩:=pm p hp;obtain⟨_,k',mk',J⟩:=pm q hq;refine zTa (GM.up u _ _ tk) (GM.up u _ _ J) ?_;rw[<- xT.rank ks mk,<- rank tk,<- rank J];show z
 .have pl:=RK.mp px
  have po:(xs.map (·.2)).toList.Perm vs:=by
   rw[rQ];have:=pl.map (·.2)
   rwa [Ud,List.map_snd_zip<|rA _]at this
  obtain⟨O,Z,tk⟩:=zQM po hk
  have e:O=aO ks:=by
   refine(Z.trans (M9 ks).symm).eq_of_pairwise (λa b _ _ h1 h2=>xT.tt _ _ h2 h1) ?_ (Am ks)
   have at':∀{i:Nat}{k:Tk},O[i]?>k->Rk (λv=>(ks.filter λx=>CN x<|PX s.heap v).length) xs i=(ks.filter λx=>CN x k).length/\i<(pairsOf vs).size:=λ{i k} e=>by
    obtain⟨u,S,tu⟩:=zN7 tk e;rw[rQ,CA]at S;obtain⟨p,I,rfl⟩:=cA.mp S;have mp:=pl.mem_iff.mp<|xA I;have hi:=(BA.mp I).1;refine⟨?_,by rw[<- px.size_eq];simpa using hi⟩;unfold Rk KK;rw[show xs[i]?>p by simpa using I];change(ks.filter λx=>CN x<|PX s.heap p.1).length=_;rw[(pm p mp).1];show rank tu
   rw[List.pairwise_iff_getElem];intro i j hi Y dM;obtain⟨r1,_⟩:=at'<|VA hi;obtain⟨r2,l2⟩:=at'<|VA Y;have:=ux i j (kE dM) l2;rw[r1,r2]at this;rw[<- xT.rank ks (Z.mem_iff.mp<|AD Y)];show decide_eq_false<|UL.mpr this
  rw[e]at tk;show h _ po tk
end
end RD
namespace RD
open PySem PySem.Spec PyProof.Rows L2
section
variable {X:Cx}{pins:rE}{σ:L2.St}{H G:Hp}{s:Shared}
theorem zRj(I:Inv X pins σ H s)(sm:zh G H):∀{ks:List Tk}{vs:List V}{its:List Value},HA X.K G (ks.map xK) vs->yK vs its->Paired (λ(u:Value) (k:Tk)=>GM s.heap u k/\∃v,yj v u/\Rep X.K G (xK k) v) its ks
 |[],vs,its,r,q=>by
  rw[yB.mp r]at q
  cases q;show .nil
 |k::ks,vs,its,r,q=>by
  rw[eA]at r;obtain⟨v,Z,rfl,a,b⟩:=zV.mp r
  cases q with
  |cons c d=>
   refine .cons ⟨?_,v,c,a⟩<|zRj I sm b d;obtain⟨p,ws,rfl,e,z⟩:=LR.mp a;obtain⟨ts,tv,⟨o,j,hc,n,hd,_⟩,_⟩:=I.tupleN<|aI.of (K:=X.K)<|sm p _ e;obtain⟨v1,_,rfl,O,z⟩:=zV.mp z;obtain⟨v2,_,rfl,S,z⟩:=zV.mp z;obtain⟨v3,_,rfl,U,z⟩:=zV.mp z;obtain⟨v4,_,rfl,Y,z⟩:=zV.mp z;rw[yB.mp z,qu.mp O,zv.mp S,zv.mp U,qu.mp Y]at tv;cases c;rcases tv with _|⟨⟨t1,rfl⟩,_|⟨⟨t2,rfl⟩,_|⟨⟨t3,rfl⟩,_|⟨⟨J,rfl⟩,_|_⟩⟩⟩⟩;show⟨p,o,n,t1,t2,t3,J,rfl,j,hc,hd⟩
theorem zTe{us:List Value}{ks:List Tk}(r:Tks h us ks)(h':∀u∈us,∃k,GM h u k/\∃v,yj v u/\Rep X.K G (xK k) v):∃vs,yK vs us/\HA X.K G (ks.map xK) vs:=by
 induction r with
 |nil=>show⟨[],.nil,HA.nil⟩
 |cons a r ih=>
  obtain⟨k,b,v,J,j⟩:=h' _ gA;obtain⟨vs,q1,I⟩:=ih λu z=>h' u<|bA _ z
  rw[zRi b a]at j;show⟨v::vs,.cons J q1,HA.cons j I⟩
theorem wx:BK X (.builtin "sorted") (cF X.K EN):=by
 intro pins s σ H xs us Q I r h;obtain⟨G,d1,ys,x,rfl,sm,r1,e,k⟩:=h;obtain⟨u,rfl,U⟩:=GN r;obtain⟨ks,O,Z,rfl⟩:=zJz e
 have main:∀{a:Addr}{vs:List V}{its:List Value}{o:Obj}{c:String}{n:Nat},HA X.K G (ks.map xK) vs->yK vs its->(c = "list"\/c = "tuple")->s.heap.get? a>o->o.cls=.type c->o.data=.seq its.toArray n->wpAny (model X.prog X.w) X.A (call (.builtin "sorted") [.ref a]) (EP X pins σ Q) X.xe s:=λ{a vs its o c n} w j hc J cl hd=>by
  have l1:=w.length;have l2:=j.length;rw[iA]at l1;have tk:=zRj I sm w j;refine zTd hc J cl hd 01 (L2.Paired.imp' (λ_ _ q=>q.1) tk) λout po to=>?_
  obtain⟨kH,h1,h2⟩:=zTe (X:=X) (G:=G) to λu Y=>by
   obtain⟨k,_,q⟩:=zN8 tk<|po.mem_iff.mp Y;show⟨k,q⟩
  have S:H (s.heap.objs.size+1)=none:=I.hok.fresh<|AC _;obtain⟨e',he⟩:=sortedAll_at s.heap its out;have l3:=h1.length;have l4:=po.length_eq;refine⟨.ref<|s.heap.objs.size+1,upd H (s.heap.objs.size+1)<|.lst kH,I.laid (t':=s.toks) (λ_ _=>sortedAll_old) (AC _) ⟨DQ<|01,out.toList,e',h1,?_⟩,rfl,k _ kH G _ (zf.newH sm S) S (sm.free S) zL h2⟩;rw[he]
 have no:cY d1≠[.non]:=λz=>by
  rw[O]at z
  cases ks with
  |nil=>cases z
  |cons x l=>cases z
 cases d1 with
 |lst zs=>
  obtain⟨a,vs,rfl,q,w⟩:=r1.list sm;cases U;obtain⟨its,j,⟨o,n,J,hc,_,hd⟩,hz⟩:=I.list q
  show main (O ▸ w) j (.inl rfl) J hc hd
 |tup zs=>
  obtain⟨a,vs,rfl,q,w⟩:=r1.tup sm;cases U;obtain⟨its,j,⟨o,J,hc,n,hd⟩,hz⟩:=I.tuple q
  show main (O ▸ w) j (.inr rfl) J hc hd
 |_=>show absurd rfl no
end
noncomputable def dY(j:Nat)(f:dC)(ρ:lB):Option (D×List D):=match ρ[j]? with
 |some (.l xs)=>(f ρ).bind λd=>match d with
  |.int i=>if 0<=i/\i<(xs.length:Int)/\i<1000000 then (xs[i.toNat]?).map λy=>(y,xs.eraseIdx i.toNat) else none
  |_=>none
 |_=>none
noncomputable def CT(g:D->lB->Option lB)(j:Nat)(f:dC):List D->lB->Option (List D)
 | [],_=>some []
 |d::ds,ρ=>(g d ρ).bind λρ1=>(dY j f ρ1).bind λq=>(CT g j f ds<|ρ.set j<|.l q.2).map (q.1 :: ·)
theorem jD.low{K:Fg}{G0 H0 G H:Hp}{ρ ρ1:lB}{σ:L2.St}(e:jD K G0 H0 G H ρ1 σ)(O:ρ1.length=ρ.length)(low:∀(i:Nat)(s:Sl),ρ[i]?>s->s=.un\/ρ1[i]?>s):jD K G0 H0 G H ρ σ:=by
 refine⟨⟨O.symm.trans e.er.len,λi d h=>?_,λi u h o=>?_,λi j s t a b ne h1 I h2 J q1 S=>?_⟩,e.bs,λi u a h o=>?_⟩
 .rcases low i _ h with z|q
  .cases z
  .show e.er.val i d q
 .rcases low i _ h with z|q
  .subst z;cases o
  .show e.er.slot i u q o
 .rcases low i _ h1 with z|q
  .subst z;cases I
  rcases low j _ h2 with z|q'
  .subst z;cases J
  show e.er.sep i j s t a b ne q I q' J q1 S
 .rcases low i _ h with z|q
  .subst z;cases o
  .show e.ows i u a q o
theorem XH.low{ρ ρ1:lB}(n:XH H ρ1 σ a)(low:∀(i:Nat)(s:Sl),ρ[i]?>s->s=.un\/ρ1[i]?>s):XH H ρ σ a:=λj u b h1 h2 h3=>by
 rcases low j u h1 with z|z
 .subst z;cases h2
 .show n j u b z h2 h3
def d7(K:Fg)(j:Nat)(f:dC):TE:=λσ H Q=>∃G0 H0 G ρ y AK,jD K G0 H0 G H ρ σ/\dY j f ρ>(y,AK) /\
 ∀v G' H' a us,zf G H G' H'->Rep K G' y v->σ[j]?>(some<|.ref a)->jD K G0 H0 G' (upd H' a<|.lst us) (ρ.set j<|.l AK) σ->Q v (upd H' a<|.lst us)
section
variable {X:Cx}{o a:Expr}{apos JB:Pos}{f:dC}
theorem zWH(j:Nat)(ho:PE X o (RG j))(ha:SE X a f)(fE:bM X o "pop":=by rfl)(S:SQ X JB [a]:=by rfl)(iE:ZP apos JB:=by rfl)(hs:oG X a []:=by rfl)(U:WH X JB []:=by rfl):
  PE X (.Call (.Attribute o "pop" apos) [a] [] JB) (d7 X.K j f):=
 WF (IQ XB pH rH zKe ho (yA ha yk hs) fE S iE hs U) λσ H Q=>by
  rintro⟨G0,H0,G,ρ,y,AK,st,I,k⟩;unfold dY at I;split at I
  .rename_i xs O;obtain⟨d,Y,I⟩:=aA.mp I;split at I
   .rename_i i;split at I
    .rename_i hi;obtain⟨y',e3,Z⟩:=cA.mp I;cases Z;obtain⟨a1,vs,q1,q2,q3,q4⟩:=st.er.own j xs O;refine⟨_,q1,.inl ⟨rfl,vs,MF.of q3⟩,G,ρ,_,st.bs.gh,st.er,Y,λv G' H' t r=>?_⟩;have SC:=st.step t;obtain⟨a2,sO,w1,w2,w3,J⟩:=SC.er.own j xs O;rw[q1]at w1;cases w1;rw[zv.mp r];obtain⟨u,hu,ru⟩:=J.get e3;have l:=J.length;refine⟨a1,sO,i,i.toNat,u,rfl,rfl,w3,01,01,?_,hu,?_⟩
     .show seqIndex_at hi.1 01
     .show k u G' H' a1 _ t ru q1 (SC.mut (w:=.l<|xs.eraseIdx i.toNat) O rfl rfl q1 (λzs z=>by cases z;show⟨_,rfl,by rw[sD,sD];show(J.take _).append (J.drop _)⟩) λ_ z=>by cases z)
    .cases I
   .cases I
  .cases I
end
theorem zRk{K:Fg}{G H:Hp}{ρ:lB}{σ:L2.St}{a:Addr}{o:HO}(e:Er K G H ρ σ){k:Nat}{u:Sl}{b:Addr}(h:ρ[k]?>u)(ob:u.isObj=true)(q:σ[k]?>(some<|.ref b))(n:a∉JE H u b):JE (upd H a o) u b=JE H u b:=by
 obtain⟨b',h1,h2,_⟩:=e.slot k u h ob;rw[q]at h1;cases h1;show(h2.same (zh.refl _) λc m v z=>by rw[upd_ne<|λy=>n (by rw[<- y];show m)];show z).2
theorem XH.mut{K:Fg}{G H:Hp}{ρ:lB}{σ:L2.St}{a c:Addr}{j:Nat}{xs ys:List D}{us:List V}(e:Er K G H ρ σ)(n:XH H ρ σ c)(J:ρ[j]?>.l xs)(I:σ[j]?>(some<|.ref a)):XH (L2.upd H a<|.lst us) (ρ.set j<|.l ys) σ c:=λk u b h1 h2 h3=>by
 rcases zj h1 with⟨rfl,rfl,_⟩|⟨ne,h1⟩
 .rw[I]at h3;cases h3;show n k _ a J rfl I
 .rw[zRk e h1 h2 h3 λm=>?_]
  .show n k u b h1 h2 h3
  .show e.sep j k (.l xs) u a b (λz=>ne z.symm) J rfl h1 h2 I h3 a (MR rfl) m
theorem jD.updOther{K:Fg}{G0 H0 G H:Hp}{ρ:lB}{σ:L2.St}{a:Addr}{o:HO}(S:jD K G0 H0 G H ρ σ)(n:XH H ρ σ a)(g:G a=none)(h:H0 a=none):jD K G0 H0 G (upd H a o) ρ σ:=
 ⟨S.er.updOther n,⟨λb u e=>by rw[upd_ne (λz=>by rw[z,g]at e;cases e)];show S.bs.gh b u e,S.bs.gg,λb u e=>by rw[upd_ne<|yV e h];show S.bs.hh b u e,S.bs.fr⟩,λi u b h1 h2 h3=>by
  rw[zRk S.er h1 (Sl.obj_of_own h2) h3<|n i u b h1 (Sl.obj_of_own h2) h3];show S.ows i u b h1 h2 h3⟩
section
variable {X:Cx}{tg iter elt:Expr}{scope:EF}{pos:Pos}{nm:List Str}{fl:dD}{gd:D->lB->Option lB}{f:dC}
structure LP(Y:Cx)(n:Nat)(G0 H0 G:Hp)(gd:D->lB->Option lB)(j:Nat)(f:dC)(ds ys:List D)(c:Addr)(tn:Nat->Heap->Prop)(fp:List Addr)(i:Nat)(σ:L2.St)(H1 G1:Hp)(R:lB)(zs:List D)(vs:List V)(rest:List D)(s:Shared):Prop where
 le:i<=ds.length
 inv:Inv Y [] σ H1 s
 tn:tn i s.heap
 fr:∀b∈fp,H1 b=none
 gg:zh G G1
 st:jD Y.K G0 H0 G1 H1 R σ
 un:∀(k:Nat)(u:Sl),R[k]?>u->n<=k->u=.un
 nd:XH H1 R σ c
 gD:G1 c=none
 hD:H1 c>.lst vs
 rz:HA Y.K G1 zs vs
 lz:zs.length<=i
 ec:CT gd j f (ds.drop i) R>rest
 ey:ys=zs++rest
theorem M0{Y:Cx}{n:Nat}{G H0:Hp}{Rs:jJ->Shared->Prop}{s:Shared}{ds ys:List D}{tn:Nat->Heap->Prop}(hx:Y.xe=λ_ _=>False)(hc:Y.calm=true)(fJ:CM n gd)(hj:j<n)(hg:SG Y tg gd)(he:PE Y elt (d7 Y.K j f))(T:eP Y.prog Y.w Y.K tg J fp it tn)(rK:∀(H':Hp),(∀b∈fp,H' b=none)->∀b∈fp,SH Y [] H' b)(uG:YM Y.K G J ds)(hl:ds.length<=1000000)(L8:H0 c=none)
  (h0:LP Y n G0 H0 G gd j f ds ys c tn fp 0 σ H G R [] [] ys s)
  (fin:∀uC H' G' vs s',Inv Y [] uC H' s'->Bs G0 H0 G' H'->G' c=none->H' c>.lst vs->HA Y.K G' ys vs->Rs (.ok .next) s') :
  xE (model Y.prog Y.w) Y.A (.compLoop (.ListComp elt [⟨tg,iter,[],0⟩] scope pos) 0 (.ref it) (.ref c) Y.env) Rs s:=by
 refine vg (λk s'=>∃i uC H1 G1 R zs vs rest,k=ds.length-i/\LP Y n G0 H0 G gd j f ds ys c tn fp i uC H1 G1 R zs vs rest s') ?_ ds.length ⟨0,_,_,_,_,_,_,_,rfl,h0⟩;rintro _ s5 ⟨i,lM,H5,G5,R,zs,vs,rest,rfl,⟨hi,I5,MK,CU,k8,S5,Zs,Ih,oZ,ES,NS,Xt,lJ,fR⟩⟩;by_cases EH:i<ds.length
 .have ed:ds.drop i=ds[i]::ds.drop (i+1):=cD EH;rw[ed]at lJ;obtain⟨U,e6,lJ⟩:=aA.mp lJ;obtain⟨⟨y,Z⟩,sU,lJ⟩:=aA.mp lJ;obtain⟨nJ,Ek,rfl⟩:=cA.mp lJ;refine wpAny_mono (T.item Y rfl rfl rfl hc i [] s5 lM H5 _ I5 (rK _ CU) MK<|uG.go i H5 (k8.trans S5.bs.gh) EH) (λr s6 zz=>?_) λ_ _ z=>z
  obtain⟨u,WU,h6⟩:=zz;subst WU;refine wpAny_mono h6 (λ_ s7 zz=>?_) λ_ _ z=>z
  obtain⟨x7,H7,I7,Jb,y7,rV,Fx⟩:=zz;obtain⟨G7,t7,r7⟩:=uG.yld i G5 H5 x7 H7 k8 S5.bs.gh EH y7;have Do:=I7.pinned (rK _ Fx)<|T.obj _ _ rV;have S7:=S5.step t7;obtain⟨k1,k2,k3⟩:=fJ _ _ _ e6;have Ii:=Ih.grow S5.er t7.h;have Gd:=t7.h _ _ ES
  have Gx:=hg _ s7 lM H7 x7 u (λO H8=>H8=H7/\jD Y.K G7 (qT H7 R lM) G7 H7 U O) Do Jb
   ⟨G7,qT H7 R lM,G7,_,ds[i],U,S7.er.toSt S7.bs.gh,r7 _ (by simp[EH]),e6,λO OS=>⟨rfl,OS⟩⟩
  refine wpAny_mono Gx (λ_ s8 q9=>?_) λ_ _ z=>(by rw[hx]at z;show z.elim)
  obtain⟨O,H8,I8,e8,OS⟩:=q9;subst e8;have M8:=zKo S7.er Ii OS k3 Gd
  have S8:jD Y.K G0 H0 G7 H8 U O:=⟨OS.er,S7.bs,λi u a h o q c m=>by
   have z:=OS.ows i u a h o q c m;unfold qT at z;split at z
   .rename_i hh;obtain⟨i',u',a',w1,w2,w3,w4⟩:=hh;show S7.ows i' u' a' w1 w2 w3 c w4
   .show S7.bs.hh.free z⟩
  rw[YF];refine wpAny_pure ?_;rw[if_pos rfl];have gD7:=t7.gD oZ ES
  have v8:=he _ s8 O H8 (λv H'=>∃G' H1 a us,H'=upd H1 a (.lst us)/\zf G7 H8 G' H1/\Rep Y.K G' y v/\O[j]?>(some<|.ref a)/\jD Y.K G0 H0 G' (upd H1 a<|.lst us) (U.set j<|.l Z) O) I8
   ⟨G0,H0,G7,U,y,Z,S8,sU,λv G' H' a us t r q S=>⟨G',H',a,us,rfl,t,r,q,S⟩⟩
  refine wpAny_mono v8 (λuy s10 q9=>?_) λe s' z=>(by rw[hx]at z;show z.elim)
  obtain⟨vy,Dn,xY,Ja,Vc,H9,a,us,eH,WN,ry,qa,Vg⟩:=q9;subst eH
  obtain⟨xs,ex⟩:∃xs,U[j]?>.l xs:=by
   unfold dY at sU;split at sU
   .show⟨_,by assumption⟩
   .cases sU
  have da:c≠a:=λz=>M8 j _ a ex rfl qa (by rw[z];show MR rfl)
  have uP:=WN.gD gD7 Gd;have EU:upd H9 a (.lst us) c>.lst vs:=by rw[upd_ne da];show WN.h _ _ Gd
  have PP:XH (upd H9 a<|.lst us) (U.set j<|.l Z) O c:=XH.mut (S8.er.step WN) (M8.grow S8.er WN.h) ex qa;have lv:vs.length=zs.length:=NS.length.symm
  have Gn:=jX (X:=Y) _ s10 O (upd H9 a<|.lst us) (.ref c) [vy] (.ref c) [uy] (λ_ H'=>H'=upd (upd H9 a<|.lst us) c (.lst<|vs++[vy])) xY rfl (.cons Ja .nil)
   ⟨c,vs,vy,rfl,rfl,EU,DA (by omega:vs.length<1000001)<|02,rfl⟩
  refine wpAny_mono Gn (λ_ s11 q9=>?_) λ_ _ z=>(by rw[hx]at z;show z.elim)
  obtain⟨_,H11,AY,_,tU⟩:=q9;subst tU;have S11:=Vg.updOther (o:=.lst<|vs++[vy]) PP uP L8;have l6:(U.set j<|.l Z).length=(R.set j<|.l Z).length:=by rw[CF,CF,k1]
  have low:∀(k:Nat)(u:Sl),(R.set j<|.l Z)[k]?>u->u=.un\/(U.set j<|.l Z)[k]?>u:=λk u h=>by
   rcases zj h with⟨rfl,rfl,hk⟩|⟨ne,h⟩
   .right;rw[ZA (by rw[k1];show hk)]
   .by_cases hk:k<n
    .right;rw[RA<|λz=>ne z.symm,k2 k hk];show h
    .left;show Zs k u h 01
  refine⟨ds.length-(i+1),01,i+1,O,_,Vc,R.set j<|.l Z,zs++[y],vs++[vy],nJ,rfl,⟨EH,AY.unpinned,T.keep _ _ _ rV λb hb o e=>(AY.pin (b,o)<|EA _<|EA _<|hX hb e).1,λb hb=>?_,k8.trans<|t7.g.trans WN.g,S11.low l6 low,λk u h hk=>?_,XH.low (PP.upd Vg.er) low,uP,zL,(HA.mono (t7.g.trans WN.g) _ _ NS).append<|HA.cons ry HA.nil,by dsimp[IA,kA,KC];omega,Ek,by rw[fR];simp⟩⟩
  .obtain⟨o,e,d⟩:=T.obj _ _ rV b hb;show(AY.pin (b,o)<|EA _<|EA _<|hX hb e).2.1
  .rcases zj h with⟨rfl,_,_⟩|⟨_,h⟩
   .omega
   .show Zs k u h hk
 .have e:i=ds.length:=01
  subst e;rw[dH]at lJ;cases lJ;rw[oB]at fR;subst fR;refine wpAny_mono (T.done Y rfl rfl rfl hc _ [] s5 lM H5 _ I5 (rK _ CU) MK<|uG.stop _ H5 (k8.trans S5.bs.gh)<|rA _) (λr s6 zz=>?_) λ_ _ z=>z
  obtain⟨WU,I6⟩:=zz;subst WU;show fin lM H5 G5 vs s6 I6 S5.bs oZ ES NS
theorem zL8{s:Shared}{ds ys:List D}{tn:Nat->Heap->Prop}{E:vD}{RR:Value->Addr->jJ->Shared->Prop}(hc:X.calm=true)(hk:scope.kind=.function)(hok:qU X.N nm scope.names X.env.scope.names=true)(fJ:CM X.N.length gd)(hj:j<X.N.length)(hg:∀C z U ex,SG (zp X nm scope C z U ex) tg gd)(he:∀C z U ex,PE (zp X nm scope C z U ex) elt<|d7 X.K j f)(I:Inv X pins σ H s)(T:eP X.prog X.w X.K tg J fp it tn)(h0:tn 0 s.heap)(UO:∀b∈fp,SH X pins H b)(st:jD X.K G0 H0 G H ρ σ)(uG:YM X.K G J ds)(hl:ds.length<=1000000)(UZ:CT gd j f ds (ρ++pA nm.length .un)>ys)(sZ:∀c C s' H' G' vs,Cw X pins σ H' s' C->Bs G0 H0 G' H'->H0 c=none->G' c=none->H' c>.lst vs->HA X.K G' ys vs->RR (.ref c) C (.ok .next) s'):
  wpAny (model X.prog X.w) X.A (newList []) (λacc z=>wpAny (model X.prog X.w) X.A (newFunctionEnv scope X.env.globals (CJ scope.names X.env.cells) [] X.env.qual none .none<|some X.env) (λZ pI=>
   xE (model X.prog X.w) X.A (.compStart (.ListComp elt [⟨tg,iter,[],0⟩] scope pos) 0 (.ref it) acc { Z with scope:=relabel scope X.env }) (RR acc Z.locals) pI) E z) E s:=by
 have er:=st.er;have sm:=st.bs.gh;have hr:ρ.length=X.N.length:=by rw[er.len,I.len]
 have un:∀{i:Nat}{u:Sl},(ρ++pA nm.length Sl.un)[i]?>u->ρ.length<=i->u=.un:=λ{i u} h hk=>by
  rw[mB hk,HB]at h;split at h<;>cases h;rfl
 refine zIs hk hok I T h0 UO λc C z pI o=>?_
 have O:=st.step<|zf.newH (o:=.lst []) sm o.nD;have L8:=st.bs.hh.free o.nD
 refine M0 (Y:=zp X nm scope C z (upd H c<|.lst []) fp) rfl hc fJ hj (hg _ _ _ _) (he _ _ _ _) T o.st uG hl L8
  ⟨EB _,o.inv,o.tn,o.fr,zh.refl _,⟨O.er.app nm.length _ (by simp),O.bs,λi u a h w q=>?_⟩,λk u h hk=>un h (by rw[hr];show hk),((XH.new er o.nD).grow er<|yM o.nD).app er,sm.free o.nD,zL,HA.nil,rA _,‹UZ›,rfl⟩
  λuC H' G' vs s' J b g h r=>sZ c C s' H' G' vs (o.out _ _ _ _ J) b L8 g h r
 by_cases hi:i<ρ.length
 .rw[XA hi]at h;rw[XA (by rw[<- er.len];show hi)]at q;show O.ows i u a h w q
 .rw[un h<|UL.mp hi]at w;cases w
def Rh(m j:Nat)(fl:dD)(g:D->lB->Option lB)(f:dC):dD:=λρ=>(fl ρ).bind λds=>if ds.length<=1000000 then CT g j f ds (ρ++pA m .un) else none
def tFP(K:Fg)(g:dD):TE:=λσ H Q=>∃G0 H0 G ρ ys,jD K G0 H0 G H ρ σ/\g ρ>ys/\∀a vs G' H',Bs G0 H0 G' H'->G' a=none->H' a>.lst vs->HA K G' ys vs->Q (.ref a) H'
theorem zQO(j:Nat)(hm:nm.length=m)(hc:X.calm=true)(hk:scope.kind=.function)(hok:qU X.N nm scope.names X.env.scope.names=true)(hi:SI X tg iter fl)(fJ:CM X.N.length gd)(hj:j<X.N.length)(hg:∀C z O ex,SG (zp X nm scope C z O ex) tg gd)(he:∀C z O ex,PE (zp X nm scope C z O ex) elt<|d7 X.K j f)(hs:∀x,cC iter X.env x=pure x:=by intro _;rfl):PE X (.ListComp elt [⟨tg,iter,[],0⟩] scope pos) (tFP X.K<|Rh m j fl gd f):=by
 intro pins s σ H Q I h;obtain⟨G0,H0,G,ρ,ys,st,ef,k⟩:=h;obtain⟨ds,Z,S⟩:=aA.mp ef;split at S
 .rename_i hl;subst hm;have U:bH scope X.env=pure (CJ scope.names X.env.cells):=qc λy hy hf=>I.ok.has y.1 ((yE hok hy).2.2.2 hf)
  rw[gK];refine wpAny_comprehension_free (use:=none) rfl hs U hk (λy hy=>(yE hok hy).2.2.1) (UC (hi pins s σ H _ I ⟨G,ρ,ds,st.bs.gh,st.er,Z,λJ G' H' t it=>(⟨G',t,it⟩:∃G',zf G H G' H'/\YM X.K G' J ds)⟩) λv s1 h1=>UC h1 λaV s2 h2=>?_);obtain⟨it,fp,tn,J,H2,rfl,Y,T,xI,f2,G2,t2,uR⟩:=h2;refine zL8 (RR:=λacc C=>PN (model X.prog X.w) X.A X.xe none (EP X pins σ Q) acc C) hc hk hok fJ hj hg he Y T xI f2 (st.step t2) uR hl S λD C s' H' G' vs o b nD gD hD rD=>⟨_,o.ns.choose_spec,λh' fL=>⟨.ref D,H',o.turned fL,rfl,k D vs G' H' b gD hD rD⟩⟩
 .cases S
def Tg(m j:Nat)(fl:dD)(g:D->lB->Option lB)(f:dC):aC:=λρ=>(Rh m j fl g f ρ).map λys=>.rt<|.tup ys
theorem zOA(j:Nat)(hm:nm.length=m)(hc:X.calm=true)(hk:scope.kind=.function)(hok:qU X.N nm scope.names X.env.scope.names=true)(hi:SI X tg iter fl)(fJ:CM X.N.length gd)(hj:j<X.N.length)(hg:∀C z I ex,SG (zp X nm scope C z I ex) tg gd)(he:∀C z I ex,PE (zp X nm scope C z I ex) elt<|d7 X.K j f)(J:Gl X "tuple")(Z:X.mg "tuple" = none)(hs:∀x,cC iter X.env x=pure x:=by intro _;rfl)(O:oG X (.ListComp elt [⟨tg,iter,[],0⟩] scope JB) []:=by rfl)(S:WH X p1 []:=by rfl):
  SS X (.Return (some<|.Call (.Name "tuple" p2) [.ListComp elt [⟨tg,iter,[],0⟩] scope JB] [] p1) pos) (Tg m j fl gd f):=
 yg (Y5<|W9 yD J Z 02 (yA (zQO j hm hc hk hok hi fJ hj hg he hs) yk O) 02 02 O S) λQ σ H=>by
  rintro⟨G0,H0,G,ρ,o,st,ef,k⟩;obtain⟨ys,e1,rfl⟩:=cA.mp ef;show⟨G0,H0,G,ρ,ys,st,e1,λa vs G' H' b g h r=>⟨G',.lst ys,.tup ys,.ref a,rfl,b.gh,.ow g h r,rfl,λv U H2 t q=>k v U H2 (b.step t) q⟩⟩
end
theorem zOB:∀{xs:List V}{us:List Value},xs.length=us.length->(∀(i:Nat)(x:V)(u:Value),xs[i]?>x->us[i]?>u->yj x u)->yK xs us
 | [],[],_,_=>.nil
 | [],_::_,h,_=>by simp at h
 |_::_,[],h,_=>by simp at h
 |x::xs,u::us,h,k=>.cons (k 0 x u rfl rfl) (zOB ‹h› λi y v j z=>k (i+1) y v ‹j›<|by simpa using z)
section
variable {X:Cx}{a:Expr}{fl:dD}
def h7(fl:dD):dD:=λρ=>(UJ fl ρ).bind λds=>if ds.length<=1000 then some ds else none
theorem zIx(hc:X.calm=true)(hg:Gl X "list")(hm:X.mg "list" = none)(S:Gl X "range")(Hd:X.mg "range" = none)(ha:SA X [a] fl)(hs:starEach [a] X.env=[(false,eval a X.env)]:=by rfl)(Z:oG X (.Call (.Name "range" p1) [a] [] p2) []:=by rfl)(BE:WH X q2 []:=by rfl):
  SF X (.Call (.Name "list" q1) [.Call (.Name "range" p1) [a] [] p2] [] q2) (h7 fl):=by
 intro pins s σ H Q I h;obtain⟨G,ρ,ys,sm,er,ef,k⟩:=h;obtain⟨ds,e1,O⟩:=aA.mp ef;obtain⟨xs,e3,J⟩:=aA.mp e1;split at J
 .rename_i j;split at J
  .rename_i hj;cases J;split at O
   .rename_i hl;cases O;have WW:j.toNat<=1000:=by simpa[rng] using hl
    refine wpAny_Call_Name_kw (VR I hg hm zRS ?_ 02<|02);refine PyProof.Rows.callWith_type1 ?_ Z BE;rw[Z];change wpAny _ _ (spliced ((false,eval _ X.env)::[])) _ _ s;refine RF (Call_<|VR I S Hd boot_range<|PyProof.Rows.callWith_type1 (UC (ha.pa p2 pins s σ H _ I ⟨G,ρ,[.int j],sm,er,e3,λvs G' H' t r=>(⟨G',t,r⟩:∃G',zf G H G' H'/\HA X.K G' [.int j] vs)⟩) λus s1 q9=>?_) hs rfl);obtain⟨vs,H1,I1,r1,G1,t1,r2⟩:=q9;obtain⟨v,r',rfl,r3,r4⟩:=zV.mp r2;have:=yB.mp r4;subst this;rw[zv.mp r3]at r1
    cases r1 with
    |cons c r=>
     cases r;obtain⟨t,rfl⟩:=c;refine call_range_1 ?_;have Y:Inv X pins σ H1 { s1 with heap:=s1.heap.push { cls:=.type "range",data:=.fields #[.int 0 s1.toks,.int j t,.int 1<|s1.toks+1] },toks:=s1.toks+1+1 }:=I1.kept λb o e=>oA _ e
     refine hJ ?_;refine call_list_range (n:=j.toNat) (I1.ok.hd hc) (IsRange.new ..) (small_one 02 02 (bT hj).1 (bT hj).2) (by rw[rangeSize_one];split<;>omega) (vA WW<|02) λh' tk acc c' hk hS zz=>?_
     obtain⟨sz,it⟩:=zz;have U:H1 (s1.heap.push { cls:=.type "range",data:=.fields #[.int 0 s1.toks,.int j t,.int 1<|s1.toks+1] }).objs.size=none:=Y.hok.fresh<|rA _;have lv:(((uA j.toNat).map λ(i:Nat)=>(0+(i:Int))).map V.int).length=acc.toList.length:=by simp[sz]
     refine⟨.ref _,upd H1 _<|.lst<|((uA j.toNat).map λ(i:Nat)=>(0+(i:Int))).map V.int,Y.laid (t':=tk) hk (rA _) ⟨DQ (by simp;omega),acc.toList,c',zOB lv λi x u ex eu=>?_,‹hS›⟩,rfl,k _ _ G1 _ (t1.trans<|zf.newH t1.s U) (t1.h.free U) (t1.s.free U) zL (by rw[show rng 0 j.toNat=((uA j.toNat).map λ(i:Nat)=>(0+(i:Int))).map D.int by simp[rng]];show HA.ints _)⟩;rw[CA,CA]at ex;obtain⟨y,ey,rfl⟩:=cA.mp ex;obtain⟨z,ez,rfl⟩:=cA.mp ey;obtain⟨tt,rfl⟩:=it i u ‹eu›;obtain⟨hz,rfl⟩:=BA.mp ez;show⟨tt,by simp⟩
   .cases O
  .cases J
 .cases J
end
open AutoSeq1 (wpAny_loadPart')
section
variable {prog:Program}{w:World}{A:Around}{E:vD}{s:Shared}{it t:Addr}{items:Array Value}
theorem Pd{P:Fin->Shared->Prop}(hh:A.handled=none)(z:s.heap.IsTupleIter it t i)(J:s.heap.IsTuple t items)(h1:∀x h',items[i]?>x->h'.IsTupleIter it t (i+1)->cE it s.heap h'->P (.done<|.ret x) { s with heap:=h' })(h2:items[i]?=none->∀h' e,B7 it s.heap h'->(∃o,h'.get? e>o/\o.cls=.type "StopIteration")->E (.ref e) { s with heap:=h' }):
  wpAny (model prog w) A (Builtin.«tuple_iterator.__next__» ⟨[.ref it],[]⟩) P E s:=by
 obtain⟨o,j,hc,hd⟩:=z;obtain⟨ol,I,_,nl,O⟩:=J;change wpAny _ _ (field (.ref it) 0 >>= _) _ _ s;refine wpAny_bind<|wpAny_field j hd (x:=.ref t) rfl ?_;rw[if_neg<|show¬ ((AB t==UF)=true) from cB];refine wpAny_bind<|wpAny_field j hd (x:=.int i 0) rfl<|wpAny_bind<|wpAny_seqItems I O ?_
 cases hx:items[i]? with
 |some x=>
  dsimp[rB,hx];refine wpAny_bind (wpAny_setField j hd (by simp)<|wpAny_pure<|h1 x _ hx ?_<|SD ..)
  show⟨_,dF _ j<|jO<|kG hd _,(Obj.cls_mapFields ..).trans hc,by rw[kG hd];simp[rawInt]⟩
 |none=>
  dsimp[rB,hx];refine wpAny_bind (wpAny_rule<|wpAny_bind<|wpAny_setField j hd (by simp) ?_);change wpAny _ _ (newExc (.type "StopIteration") [] >>= _) _ _ _;refine wpAny_bind ?_;dsimp[newExc,newTuple];refine wpAny_bind (wpAny_newObj_type (wpAny_bind (m:=firstArgMember _ _)<|wpAny_of_eq (a:=UF) (by dsimp[firstArgMember];rfl)<|wpAny_newObj_type ?_<|by size_fits)<|by size_fits);dsimp[raiseNew];refine wpAny_bind<|wpAny_handled ?_;rw[hh];show wpAny_bind<|wpAny_pure<|wpAny_throw<|h2 hx _ _ (((SD ..).extBut.push _).push _) ⟨_,KA _ rfl,rfl⟩
theorem zOC(hh:A.handled=none)(z:t≠it):Draws prog w A it [it,t] items.size (λi v=>items[i]?>v) (λi h=>h.IsTupleIter it t i/\h.IsTuple t items) where
 live:=λ_ _ st=>let ⟨o,ho,_⟩:=st.1;⟨o,ho⟩
 frame:=λ_ _ _ st hk=>⟨let ⟨o,ho,r⟩:=st.1;⟨o,hk it (by simp) o ho,r⟩,let ⟨o,ho,r⟩:=st.2;⟨o,hk t (by simp) o ho,r⟩⟩
 item:=λi s Q E hi st hQ=>by
  unfold ME;refine wpAny_bind (wpAny_callSpecial?_slot (name:=fA "__next__") st.1.typeIs wC<|wpAny_call_entry wC st.1.typeIs gG (Pd hh st.1 st.2 (λx h' hx j hs=>⟨x,rfl,wpAny_pure<|hQ x h' s.toks hx ⟨j,st.2.extBut hs.extBut z⟩ hs⟩) λhx=>?_)<|TF _);rw[Array.getElem?_eq_none_iff]at hx;omega
 done:=λs Q E st I=>by
  unfold ME;refine wpAny_bind (wpAny_callSpecial?_slot (name:=fA "__next__") st.1.typeIs wC<|wpAny_call_entry wC st.1.typeIs gG (Pd hh st.1 st.2 (λx h' hx _ _=>?_) λ_=>I)<|TF _);simp at hx
theorem zQP{o:Obj}:Meets (Builtin.«enumerate.__new__» ⟨[.type "enumerate",.ref t],[]⟩) (λ_ R s=>s.heap.get? t>o/\o.cls=.type "tuple"/\o.data=.seq items n /\
   R (.ok<|.ret<|.ref (s.heap.push { cls:=.type "tuple_iterator",data:=.fields #[.ref t,.int 0 0] }).objs.size)
    { s with heap:=(s.heap.push { cls:=.type "tuple_iterator",data:=.fields #[.ref t,.int 0 0] }).push { cls:=.type "enumerate",data:=.fields #[.none,.bool false,.ref s.heap.objs.size,rawInt 0,.none,.none] } }):=
 .of_wp λprog w A R s h=>by
  obtain⟨hp,g,d,tk,os⟩:=s;obtain⟨j,hc,hd,h⟩:=h;have I:=sub_enumerate;have z:Heap.IsTuple (Shared.heap ⟨hp,g,d,tk,os⟩) t items:=⟨_,j,hc,n,hd⟩
  wp_walk using wpAny_loadPart' j
  refine wpAny_stack_any λst=>wpAny_pure ?_
  split
  .rename_i c _ _ _ _ _;cases (c==bE "enumerate")<;>(wp_walk using wpAny_loadPart' j,wpAny_pyIter_tuple z;show⟨_,rfl,h⟩)
  .wp_walk using wpAny_loadPart' j,wpAny_pyIter_tuple z
   show⟨_,rfl,h⟩
theorem zL9{Q:vD}(hL:s.heap.IsTuple t items)
  (h:∀h',BW h' (s.heap.objs.size+1) s.heap.objs.size 0 .none->h'.IsTupleIter s.heap.objs.size t 0->(∀b o,s.heap.get? b>o->h'.get? b>o)->Q (.ref<|s.heap.objs.size+1) { s with heap:=h' }) :
  wpAny (model prog w) A (call (.type "enumerate") [.ref t]) Q E s:=by
 obtain⟨o,j,hc,n,hd⟩:=hL;refine callType_new F.called_enumerate 02 (F.typeCall_enumerate_1 _) (F.newCall_enumerate_1 _) (λobj=>F.args_object_init_2 obj _) F.entry_enumerate_new (zQP (items:=items) (n:=n)) ⟨j,hc,hd,?_⟩;have hz:(s.heap.push { cls:=.type "tuple_iterator",data:=.fields #[.ref t,.int 0 0] }).objs.size=s.heap.objs.size+1:=OE ..;change _/\_;rw[hz]
 have he:BW ((s.heap.push { cls:=.type "tuple_iterator",data:=.fields #[.ref t,.int 0 0] }).push { cls:=.type "enumerate",data:=.fields #[.none,.bool false,.ref s.heap.objs.size,rawInt 0,.none,.none] }) (s.heap.objs.size+1) s.heap.objs.size 0 .none:=by
  have:=KA (s.heap.push { cls:=.type "tuple_iterator",data:=.fields #[.ref t,.int 0 0] }) (o:={ cls:=.type "enumerate",data:=.fields #[.none,.bool false,.ref s.heap.objs.size,rawInt 0,.none,.none] }) rfl;rw[hz]at this;show this
 show⟨⟨_,he,rfl⟩,h _ he ⟨_,oA _<|KA _ rfl,rfl,rfl⟩ λb o x=>oA _<|oA _ x⟩
theorem zOD{e:Addr}{i:Nat}{I:Value}{Q:Option Value->Shared->Prop}(hh:A.handled=none)(he:BW s.heap e it i I)(j:s.heap.IsTupleIter it t i)(S:s.heap.IsTuple t items)(hx:items[i]?=none)
  (hQ:∀h',B7 it s.heap h'->Q none { s with heap:=h' }):wpAny (model prog w) A (pyNext<|.ref e) Q E s:=by
 have J:s.TypeIs (.ref e) "enumerate":=⟨_,he,rfl⟩
 unfold pyNext;refine wpAny_bind<|wpAny_attempt<|wpAny_callSpecial?_slot (name:=fA "__next__") J lP<|wpAny_call_entry lP J F.entry_enumerate_next ?_<|F.args_enumerate_next_1 _;change wpAny _ _ (field (.ref e) 2 >>= _) _ _ _;refine wpAny_bind<|wpAny_field he rfl (x:=.ref it) rfl ?_;unfold ME;refine wpAny_bind (wpAny_bind<|wpAny_callSpecial?_slot (name:=fA "__next__") j.typeIs wC<|wpAny_call_entry wC j.typeIs gG (Pd hh j S (λx h' z _ _=>?_) λ_ h' x k ⟨o,O,hc⟩=>?_)<|TF _)
 .rw[hx]at z;cases z
 .show wpAny_bind<|wpAny_isInstance (T:="StopIteration") (b:=true) ⟨o,O,hc⟩ isSubtype_stop<|wpAny_pure<|hQ _ k
end
def BY(K:Fg)(a:Addr):It:=
 ⟨λi H=>∃xs x,aI K H a xs/\xs[i]?>x,λi H x H'=>∃p y,H p=none/\x=.ref p/\H'=upd H p (.tup [.int i,y])/\∀xs,aI K H a xs->xs[i]?>y,λi H=>∃xs,aI K H a xs/\xs.length<=i⟩
section
variable {P:Program}{w:World}{K:Fg}
theorem zMA{es:List Expr}{k:Nat}(a e it:Addr)(UW:e≠it):eP P w K (.Tuple es k VE) (BY K a) [e,it] e (λi h=>(∃j,BW h e it i j)/\h.IsTupleIter it a i) where
 mem:=by simp
 obj:=λi h st b hb=>by
  obtain⟨⟨j,he⟩,o,Y,hc,hd⟩:=st;rcases lA.mp hb with rfl|hb
  .show⟨_,he,λv z=>by cases z⟩
  .have U:b=it:=‹hb›
   subst U;show⟨o,Y,λv z=>by rw[hd]at z;cases z⟩
 keep:=λi h h' st hk=>by
  obtain⟨⟨j,he⟩,o,Y,hc,hd⟩:=st;show⟨⟨j,hk e (by simp) _ he⟩,o,hk it (by simp) o Y,hc,hd⟩
 item:=by
  intro X U e2 e3 VD i pins s σ H E I hf st go;subst U e2 e3;obtain⟨⟨j,he⟩,J⟩:=st;obtain⟨xs,x,hq,hx⟩:=go;obtain⟨its,Z,p,hz⟩:=I.tuple hq;obtain⟨u,hu,ru⟩:=Z.get hx;have fe:=hf e (by simp);have fi:=hf it (by simp);have wM:∀b o,H b>o->b≠e:=λb o q z=>by rw[z,fe.1]at q;cases q
  have xM:∀b o,H b>o->b≠it:=λb o q z=>by rw[z,fi.1]at q;cases q
  obtain⟨oa,x8,Gr,Gu⟩:=p;have nea:e≠a:=λz=>by subst z;rw[show s.heap.get? e=_ from he]at x8;cases x8;simp at Gr
  have nia:a≠it:=λz=>by subst z;obtain⟨o,q,c,_⟩:=J;rw[x8]at q;cases q;rw[Gr]at c;simp at c
  have EH:i<its.length:=by rw[<- Z.length];show(BA.mp hx).1
  refine wpAny_pyNext_enum_itemD (zOC (items:=its.toArray) (I.ok.hd VD) nia) he ⟨J,oa,x8,Gr,Gu⟩ ‹EH› UW (by simp[UW,nea]) λS h' tk BQ Y SC hT hsz hk=>⟨_,rfl,?_⟩
  have:S=u:=by
   rw[ON,hu]at BQ;cases BQ;rfl
  subst this;have MU:=SC.1;refine RN Y λDS KU BN=>?_
  have hn:H s.heap.objs.size=none:=I.hok.fresh<|rA _;have O:∀b o,b≠e->b≠it->s.heap.get? b>o->DS.get? b>o:=λb o h1 h2 q=>(BN.2 b h1).trans<|hk b o h1 h2 q
  have xP:e<s.heap.objs.size:=GA he;have Gi:s.heap.objs.size≠e:=KH xP;have FU:DS.get? s.heap.objs.size>{ cls:=.type "tuple",data:=.seq #[.int i tk,S] }:=(BN.2 _ Gi).trans hT;have FH:∀b o,H b>o->b≠s.heap.objs.size:=λb o q z=>by rw[z,hn]at q;cases q
  have LU:it<s.heap.objs.size:=by obtain⟨o,q,_⟩:=J;show GA q
  have Fu:∀b∈[e,it],(b∈X.ex\/X.s₀.heap.objs.size<=b)/\b≠X.env.locals/\(∀x c,X.env.cells.lookup x>c->c≠b)/\∀p∈X.pn++pins,p.1≠b:=λb hb=>⟨(hf b hb).2.2.2.1,(hf b hb).2.1,(hf b hb).2.2.2.2.1,(hf b hb).2.2.2.2.2⟩
  have off:∀b,b∉[e,it]->b≠e/\b≠it:=λb hb=>⟨λz=>hb (by simp[z]),λz=>hb<|by simp[z]⟩
  have I':Inv X pins σ (upd H s.heap.objs.size<|.tup [.int i,x]) { s with heap:=DS,toks:=tk+1 }:=by
   refine I.step (g':=s.gens) (d':=s.drawn) (ch:=[e,it]) Fu (λb o _ _ hc q _=>O b o (off b hc).1 (off b hc).2 q) (λb o _ _ hc q _=>⟨o.slots,O b o (off b hc).1 (off b hc).2 q⟩)
    (λb o _ q n=>by rw[upd_ne<|OA<|GA q];show n) (λb o hc q=>⟨o,O b o (off b hc).1 (off b hc).2 q⟩)
    (λb ys q=>by rw[upd_ne<|FH b _ q];show q) (λb o' S q=>by rw[upd_ne<|FH b _ q];show q) (λb ps q=>⟨#[],by rw[upd_ne<|FH b _ q,q];simp⟩)
    (λm hm=>?_) (λb S q=>?_) I.bare
   .obtain⟨o,xU,ep,FP,r⟩:=hm;show⟨o,xU,ep,O _ o (Ne.symm fe.2.1) (Ne.symm fi.2.1) FP,r⟩
   .by_cases hb:b=s.heap.objs.size
    .subst hb;rw[zL]at q;cases q;show⟨by change 2<=sizeLine;decide,[.int i tk,S],.cons ⟨_,rfl⟩<|.cons ru .nil,⟨_,FU,rfl,_,rfl,rfl⟩⟩
    .rw[upd_ne hb]at q;refine(I.hok b S q).stay (λc v hc r=>?_) (λc r=>by rw[upd_ne<|FH c _ r];show r) λc ys r=>by rw[upd_ne<|FH c _ r];show r
     rcases hc with z|z
     .subst z;show O c v (wM c _ q) (xM c _ q) r
     .show O c v (wM c _ z) (xM c _ z) r
  refine⟨.ref s.heap.objs.size,_,I',rfl,⟨s.heap.objs.size,x,hn,rfl,rfl,λys hy=>?_⟩,⟨⟨_,‹KU›⟩,?_⟩,λb hb=>?_⟩
  .rw[<- I.tuple_inj hq hy];show hx
  .obtain⟨o,q1,q2⟩:=MU;show⟨o,(BN.2 it<|Ne.symm UW).trans q1,q2⟩
  .have:b≠s.heap.objs.size:=by
    rcases lA.mp hb with z|z
    .rw[z];show OA xP
    .have z':b=it:=‹z›
     rw[z'];show OA LU
   rw[upd_ne this];show(hf b hb).1
 done:=by
  intro X U e2 e3 VD i pins s σ H E I hf st stop;subst U e2 e3;obtain⟨⟨j,he⟩,J⟩:=st;obtain⟨xs,hq,hx⟩:=stop;obtain⟨its,Z,p,hz⟩:=I.tuple hq;have fi:=hf it (by simp);refine zOD (I.ok.hd VD) he J p (by simp;rw[<- Z.length];show hx) λh' hk=>⟨rfl,?_⟩
  show I.turned (t':=s.toks) (λb o hb q=>hk b o hb q) fi.1 fi.2.1 fi.2.2.2.1 fi.2.2.2.2.1 fi.2.2.2.2.2
 self:=λA i s Q E st h=>by
  obtain⟨⟨j,he⟩,_⟩:=st;show AH he h
end
theorem zQQ{K:Fg}{G:Hp}{a:Addr}{vs:List V}{ds:List D}(h:aI K G a vs)(r:HA K G ds vs):YM K G (BY K a) (rL 0 ds) where
 go:=λi H s hi=>by
  rw[U4]at hi;show⟨vs,vs[i]'(by rw[<- r.length];show hi),yf s h,by simp[<- r.length,hi]⟩
 stop:=λi H s hi=>by
  rw[U4]at hi;show⟨vs,yf s h,by rw[<- r.length];show hi⟩
 yld:=λi I H x H' s1 s hi y=>by
  obtain⟨p,y,hp,rfl,rfl,hy⟩:=y;refine⟨_,zf.new s hp,λd e=>?_⟩;obtain⟨d',j,rfl⟩:=Oc 0 ds i d e;obtain⟨v,z,e3⟩:=r.get j;have:=hy vs<|yf (s1.trans s) h;rw[z]at this;cases this;refine LR.mpr ⟨p,_,rfl,zL,HA.cons (zv.mpr<|by simp)<|HA.cons ?_ HA.nil⟩;show Rep.mono (yM<|s.free hp) _ _<|Rep.mono s1 _ _ e3
section
variable {X:Cx}{a:Expr}{f:dC}{es:List Expr}{k:Nat}{VE p pos:Pos}
def ZU(f:dC):dD:=λρ=>(f ρ).bind λd=>match d with
 |.tup xs=>some<|rL 0 xs
 |_=>none
theorem zK4(hg:Gl X "enumerate")(hm:X.mg "enumerate" = none)(ha:SE X a f)(hs:oG X a []:=by rfl)(O:WH X pos []:=by rfl):
  SI X (.Tuple es k VE) (.Call (.Name "enumerate" p) [a] [] pos) (ZU f):=by
 intro pins s σ H R I ⟨G,ρ,ds,sm,er,Z,kk⟩;obtain⟨d,Y,J⟩:=aA.mp Z
 cases d with
 |tup xs=>
  cases J;refine wpAny_Call_Name_kw (VR I hg hm boot_enumerate<|PyProof.Rows.callWith_type1 (UC (yA ha yk hs pos pins s σ H (λvs H'=>∃G' v,vs=[v]/\zf G H G' H'/\Rep X.K G' (.tup xs) v) I ⟨G,ρ,_,sm,er,Y,λv G' H' t r=>⟨G',v,rfl,t,r⟩⟩) λus s1 q9=>?_) hs O);obtain⟨vs,H1,I1,rv,S,v,ev,t1,r1⟩:=q9;subst ev;obtain⟨u,rfl,ru⟩:=GN rv;obtain⟨l,vs,rfl,q,w⟩:=XS r1;cases ru;obtain⟨its,vv,pl,hz⟩:=I1.tuple<|yf t1.s q;refine zL9 pl λh' he j hk=>AH he ?_
  have U:Inv X pins σ H1 { s1 with heap:=h' }:=I1.kept (t':=s1.toks) hk;refine⟨s1.heap.objs.size+1,[s1.heap.objs.size+1,s1.heap.objs.size],_,_,H1,rfl,U,zMA l (s1.heap.objs.size+1) s1.heap.objs.size<|sS _,⟨⟨_,he⟩,j⟩,λb hb=>?_,kk _ S H1 t1<|zQQ q w⟩;rcases lA.mp hb with z|z
  .rw[z];show I1.fpOk (AC _)<|I1.hok.fresh<|AC _
  .rw[jA.mp z];show I1.fpOk (rA _)<|I1.hok.fresh<|rA _
 |_=>cases J
end
end RD
section
local macro_rules | `(tactic| exists $es,*) => let l := ("RD.gV RD.gR RD.zM RD.zN RD.AI RD.wF RD.sq RD.nG RD.bB RD.b1 RD.b2 RD.b3 RD.QO RD.nU RD.IK RD.DT RD.YX RD.gL RD.jS RD.Zw RD.Y3 RD.PY RD.QY RD.ZX RD.QQ RD.W3 RD.AS RD.asI RD.oI RD.zC RD.qF RD.AJ RD.R6 RD.zRT RD.iL RD.iT RD.Xh RD.C8 RD.rL RD.Dz RD.Ea RD.AO RD.Qx RD.frz RD.qG RD.OK RD.iQ RD.jM RD.Sm RD.ZV RD.cH RD.tK RD.aW RD.Cq RD.Ie RD.jR RD.Hx RD.Eg RD.VY RD.Sn RD.Bt RD.Bu RD.MY RD.NY RD.Cr RD.VJ RD.Zn dA Option.bind_none wA Option.map_none jB CB List.getElem?_nil KD XI kA KC eA FC fC lC oB List.replicate_succ List.replicate_zero Nat.reduceAdd Nat.reduceSub Nat.reduceLeDiff Nat.reduceLT if_true if_false ite_true ite_false true_and and_true xB decide_true decide_false oM VT pS AW iA IA RH LH jE reduceIte reduceCtorEq Int.reduceLT Int.reduceLE Int.reducePow Int.reduceNeg Int.reduceMul Int.reduceAdd Int.reduceSub Int.reduceToNat true_or or_true and_self or_self mM vW nM rJ fN dI uW Nat.reduceMul Nat.reducePow Int.reduceEq Nat.reduceEqDiff Int.natCast_zero Int.cast_ofNat_Int Int.ofNat_eq_natCast RD.rng RD.UJ RD.gM RD.inR RD.zy RD.mG RD.zT RD.UH RD.zn RD.zK".splitOn " ").toArray.map (fun s => (⟨Lean.mkIdent s.toName⟩ : Lean.Term)) ++ es.getElems; `(tactic| simp (config := { decide := true }) only [$[$l:term],*])
local macro_rules | `(tactic| exists 0, $es,*) => let l := ("RD.zw RD.zR RD.vF RD.AE RD.gN RD.gT RD.zi RD.UD RD.pF RD.CD RD.EG".splitOn " ").toArray.map (fun s => (⟨Lean.mkIdent s.toName⟩ : Lean.Term)) ++ es.getElems; `(tactic| exists $[$l:term],*)
local macro_rules|`(!$x)=>`(.v $x)
namespace LG
open PySem L2 RD
noncomputable abbrev Ms:List Str:=["_law_script","_law_k"]
def O9:aC:=(sq (nG (bB<|b2 (gR 1) (b1 (gR 0) cH) Ie) (wF<|b2 (gR 0) (gR 1) WA)<|λρ=>some<|Out.nx ρ)<|wF<|zM 0)
def zb(ds:List D):Option D:=AI Ms O9 ds
noncomputable abbrev Of:List Str:=["_law_cell_here","_law_prime","_law_many"]
def Og:aC:=(wF<|b2 (b2 (b2 (gR 0) (zM 48271) iQ) (gR 1) jM) (gR 2) jM)
def zP(ds:List D):Option D:=AI Of Og ds
def Lp:aC:=(sq (qF 5<|λρ=>((zC (gV 0)<|zC (zM 9883)<|zC (b2 (b1 (gR 4) cH) (zM 1) qG) zN) ρ).bind zP)<|wF<|b2 (b2 (IK (gR 4) (λ_=>some none) (oI<|gV 5) VJ) (gR 3) qG) (IK (gR 4) (oI<|gV 5) (λ_=>some none) VJ) qG)
def J4:aC:=(sq (qF 4<|b1 (λρ=>((zK 1 (UJ<|zC (λρ=>((zC (gV 0)<|zC (zM 9887)<|zC (zM 3) zN) ρ).bind zP) zN) (gN 6) (λ_=>some true)<|b2 (gR 2) (λρ=>((zC (b2 (gR 0) (b2 (zM 3) (gR 6) iQ) qG)<|zC (zM 9941)<|zC (zM 26) zN) ρ).bind zP) WA) ρ).map D.lst)<|VX "") Lp)
noncomputable abbrev Mt:List Str:=["_law_cell_here","_law_j","_law_letters","_law_sign","_law_tail","_law_at"]
def Mu:aC:=(sq (qF 2<|λ_=>some<|D.str "abcdefghijklmnopqrstuvwxyz")<|sq (qF 3<|b2 (gR 2) (b2 (b2 (λρ=>((zC (gV 0)<|zC (zM 9923)<|zC (zM 26) zN) ρ).bind zP) (b2 (zM 9) (gR 1) iQ) qG) (zM 26) jM) WA) J4)
def yI(ds:List D):Option D:=AI Mt Mu ds
noncomputable abbrev Lh:List Str:=["_law_cell_here","_law_many"]
def k9:aC:=(wF<|jS (b2 (b2 (gR 0) (zM 4) jM) (zM 2) AE)<|b2 (gR 1) (zM 2) jR)
def yP(ds:List D):Option D:=AI Lh k9 ds
noncomputable abbrev Mw:List Str:=["_law_cell_here","_law_many","_law_rows"]
def Mx:aC:=(sq (qF 2<|b2 (b2 (gR 1) (zM 2) OK) (b1 (λρ=>((zC (gV 0)<|zC (gV 1) zN) ρ).bind yP) Cq) qG)<|wF<|b2 (b2 (zM 1) (b2 (b2 (zM 1) (λρ=>((zC (gV 0)<|zC (zM 9949)<|zC (zM 3) zN) ρ).bind zP) qG) (gR 2) iQ) qG) (b1 (b2 (λρ=>((zC (gV 0)<|zC (zM 9931)<|zC (zM 3) zN) ρ).bind zP) (zM 0) jR) Cq) qG)
def R4(ds:List D):Option D:=AI Mw Mx ds
def zES:aC:=(sq (qF 12<|b2 (λρ=>((zC (b2 (b2 (gR 10) (gR 11) qG) (zM 1) qG)<|zC (b2 (gR 1) (gR 8) WA) zN) ρ).map D.lst) (b1 (b2 (gR 11) (b2 (gR 7) (zM 1) OK) AE) Cq) WA)<|AO 5<|λρ=>((zC (λ_=>some<|D.str "tell")<|zC (b2 (gR 3) (zM 0) WA)<|zC (b2 (gR 3) (gR 11) WA)<|zC (λρ=>((zC (λρ=>((zC (gV 9)<|zC (gV 12) zN) ρ).map D.tup) zN) ρ).map D.tup) zN) ρ).map D.tup)
def zET:aC:=(sq (qF 10<|b2 (b2 (gR 0) (zM 1) qG) (b2 (gR 8) (gR 7) iQ) qG)<|sq (AO 6<|λρ=>((zC (gV 9)<|zC (gV 10) zN) ρ).map D.tup)<|sq (AO 5<|λρ=>((zC (λ_=>some<|D.str "tell")<|zC (gV 2)<|zC (b2 (gR 3) (zM 1) WA)<|zC (λρ=>((zC (λρ=>((zC (b2 (gR 4) (zM 0) WA)<|zC (b2 (gR 10) (zM 1) qG) zN) ρ).map D.tup) zN) ρ).map D.tup) zN) ρ).map D.tup)<|zn (Xh<|zC (zM 1)<|zC (gV 7) zN) (gN 11) zES)
noncomputable abbrev Kr:List Str:=["_law_start","_law_goals","_law_one","_law_others","_law_words","_law_rows","_law_choices","_law_size_here","_law_j","_law_word_here","_law_at","_law_k","_law_after"]
def jr:aC:=(sq (AJ 5 zN)<|sq (AJ 6 zN)<|sq (qF 7<|b1 (gR 3) cH)<|sq (zn (C8<|gV 4) (gT 2<|UD (gN 8)<|UD (gN 9) vF) zET)<|wF<|λρ=>((nU (λρ=>((zC (λρ=>((zC (λ_=>some<|D.str "tell")<|zC (gV 2)<|zC (b2 (gR 3) (zM 0) WA)<|zC (b1 (gR 6) tK) zN) ρ).map D.tup) zN) ρ).map D.lst) (gR 5) zy) ρ).map D.lst)
def yw(ds:List D):Option D:=AI Kr jr ds
def zFs:aC:=(AO 7<|λρ=>((zC (λ_=>some<|D.str "tell")<|zC (gV 4)<|zC (b2 (gR 5) (b2 (gR 12) (zM 1) qG) WA)<|zC (λρ=>((zC (λρ=>((zC (gV 10)<|zC (b2 (gR 11) (b2 (gR 12) (zM 1) qG) WA) zN) ρ).map D.tup) zN) ρ).map D.tup) zN) ρ).map D.tup)
def zFt:aC:=(sq (qF 11<|λρ=>((nU (λρ=>((zK 1 (UJ<|zC (b2 (gR 2) (zM 2) OK) zN) (gN 13) (λ_=>some true)<|b2 (b2 (b2 (gR 1) (zM 1) qG) (b2 (gR 9) (b2 (gR 2) (zM 2) OK) iQ) qG) (gR 13) qG) ρ).map D.lst) (λρ=>((zC (b2 (gR 3) (gR 9) WA) zN) ρ).map D.lst) zy) ρ).map D.lst)<|sq (AO 8<|λρ=>((zC (gV 10)<|zC (b2 (gR 11) (zM 0) WA) zN) ρ).map D.tup)<|zn (UJ<|zC (b2 (gR 2) (zM 2) OK) zN) (gN 12) zFs)
def Kt:aC:=(sq (AJ 7 zN)<|sq (AJ 8 zN)<|sq (zn (C8<|gV 6) (gT 2<|UD (gN 9)<|UD (gN 10) vF) zFt)<|wF<|λρ=>((nU (λρ=>((zC (λρ=>((zC (λ_=>some<|D.str "tell")<|zC (gV 4)<|zC (b2 (gR 5) (zM 0) WA)<|zC (b1 (gR 8) tK) zN) ρ).map D.tup) zN) ρ).map D.lst) (gR 7) zy) ρ).map D.lst)
def yX:aC:=(sq (nG (QQ<|λρ=>((zC (gV 0)<|zC (gV 2) zN) ρ).bind yP) (wF<|λρ=>((zC (gV 1)<|zC (gV 3)<|zC (gV 4)<|zC (gV 5)<|zC (gV 6) zN) ρ).bind yw)<|λρ=>some<|Out.nx ρ) Kt)
def Ku:aC:=(sq (qF 6<|λρ=>((QO (λρ=>((zK 1 (UJ<|zC (b2 (zM 1) (λρ=>((zC (gV 0)<|zC (zM 9949)<|zC (zM 3) zN) ρ).bind zP) qG) zN) (gN 13) (λ_=>some true)<|λρ=>((zC (gV 0)<|zC (gV 13) zN) ρ).bind yI) ρ).map D.lst) ZR) ρ).map D.lst) yX)
noncomputable abbrev Li:List Str:=["_law_cell_here","_law_start","_law_many","_law_goals","_law_one","_law_others","_law_words","_law_rows","_law_choices","_law_j","_law_word_here","_law_afters","_law_k"]
def kq:aC:=(sq (qF 4<|λρ=>((zC (gV 0)<|zC (zM 9929)<|zC (gV 2) zN) ρ).bind zP)<|sq (qF 5 λρ=>((zK 1 (UJ<|zC (b2 (gR 2) (zM 1) OK) zN) (gN 13) (λ_=>some true)<|b2 (b2 (b2 (gR 4) (zM 1) qG) (b2 (b2 (gR 13) (λρ=>((zC (gV 0)<|zC (zM 9901)<|zC (b2 (gR 2) (zM 1) OK) zN) ρ).bind zP) qG) (b2 (gR 2) (zM 1) OK) jM) qG) (gR 2) jM) ρ).map D.lst) Ku)
def qd(ds:List D):Option D:=AI Li kq ds
noncomputable abbrev Kv:List Str:=["_law_cell_here","_law_here","_law_many","_law_goal","_law_one","_law_other","_law_words"]
def qe:aC:=(sq (qF 4<|λρ=>((zC (gV 0)<|zC (zM 9871)<|zC (gV 2) zN) ρ).bind zP)<|sq (qF 5<|b2 (b2 (b2 (gR 4) (zM 1) qG) (λρ=>((zC (gV 0)<|zC (zM 9859)<|zC (b2 (gR 2) (zM 1) OK) zN) ρ).bind zP) qG) (gR 2) jM)<|sq (qF 6<|λρ=>((QO (λρ=>((zC (λρ=>((zC (b2 (gR 0) (zM 1) qG)<|zC (zM 0) zN) ρ).bind yI)<|zC (λρ=>((zC (b2 (gR 0) (zM 1) qG)<|zC (zM 1) zN) ρ).bind yI) zN) ρ).map D.lst) ZR) ρ).map D.lst)<|sq (nG (bB<|b2 (λρ=>((zC (gV 0)<|zC (zM 9931)<|zC (zM 3) zN) ρ).bind zP) (zM 1) AE) (wF<|λρ=>((zC (λ_=>some<|D.str "tell")<|zC (gV 4)<|zC (gV 5)<|zC (λρ=>((zC (λρ=>((zC (b2 (gR 6) (zM 0) WA)<|zC (gV 3) zN) ρ).map D.tup) zN) ρ).map D.tup) zN) ρ).map D.tup)<|λρ=>some<|Out.nx ρ)<|wF<|λρ=>((zC (λ_=>some<|D.str "tell")<|zC (gV 4)<|zC (gV 5)<|zC (λρ=>((zC (λρ=>((zC (b2 (gR 6) (zM 0) WA)<|zC (b2 (λρ=>((zC (gV 1)<|zC (gV 3) zN) ρ).map D.lst) (b2 (gR 0) (zM 2) jM) WA) zN) ρ).map D.tup)<|zC (λρ=>((zC (b2 (gR 6) (zM 1) WA)<|zC (b2 (λρ=>((zC (gV 3)<|zC (gV 1) zN) ρ).map D.lst) (b2 (gR 0) (zM 2) jM) WA) zN) ρ).map D.tup) zN) ρ).map D.tup) zN) ρ).map D.tup)
def yY(ds:List D):Option D:=AI Kv qe ds
def qA:aC:=(AO 3<|b2 (b2 (gR 3) (b1 (zM 1) ZV) WA) (λρ=>((zC (gV 4)<|zC (gV 1) zN) ρ).bind R4) qG)
def qg:aC:=(sq (AJ 7<|zK 1 (UJ<|zC (zM 3) zN) (gN 9) (λ_=>some true)<|b2 (gR 3) (λρ=>((zC (b2 (gR 4) (b2 (zM 7) (gR 9) iQ) qG)<|zC (zM 9907)<|zC (b1 (gR 3) cH) zN) ρ).bind zP) WA)<|sq (qF 8<|b2 (gR 7) (zM 0) WA)<|sq (nG (bB<|b2 (λρ=>((zC (gV 4)<|zC (zM 9931)<|zC (zM 3) zN) ρ).bind zP) (zM 0) jR) (Qx 7 (zM 0)<|b2 (b2 (gR 3) (b2 (gR 6) (zM 1) qG) WA) (zM 1) OK)<|λρ=>some<|Out.nx ρ)<|λρ=>(sq (AJ 5<|nU (gR 5) (λρ=>((zC (gV 4)<|zC (b2 (gR 3) (gR 6) WA)<|zC (gV 1)<|zC (gV 7) zN) ρ).bind qd) zy)<|nG (bB<|b2 (λρ=>((zC (gV 4)<|zC (zM 9931)<|zC (zM 3) zN) ρ).bind zP) (zM 0) jR) (AO 5<|λρ=>((zC (gV 4)<|zC (b2 (b2 (gR 3) (b2 (gR 6) (zM 1) qG) WA) (zM 1) OK)<|zC (gV 1)<|zC (gV 8) zN) ρ).bind yY)<|λρ=>some<|Out.nx ρ)<|frz 7 ρ)
noncomputable abbrev Mf:List Str:=["_law_script","_law_many","_law_cells","_law_starts","_law_cell_here","_law_places","_law_k","_law_goals","_law_after"]
def D9:aC:=(sq (qF 1<|b2 (zM 2) (λρ=>((zC (λρ=>((zC (gV 0)<|zC (zM 0) zN) ρ).bind zb)<|zC (zM 9973)<|zC (zM 3) zN) ρ).bind zP) qG)<|sq (qF 2 λρ=>((zK 1 (UJ<|zC (b2 (zM 1) (λρ=>((zC (λρ=>((zC (gV 0)<|zC (zM 0) zN) ρ).bind zb)<|zC (zM 9967)<|zC (zM 3) zN) ρ).bind zP) qG) zN) (gN 9) (λ_=>some true)<|λρ=>((zC (gV 0)<|zC (b2 (zM 1) (gR 9) qG) zN) ρ).bind zb) ρ).map D.lst)<|sq (AJ 3<|zC (zM 0) zN)<|sq (zn (iL<|gV 2) (gN 4) qA)<|sq (AJ 5 zN)<|sq (zn (C8<|gV 2) (gT 2<|UD (gN 6)<|UD (gN 4) vF) qg)<|wF<|λρ=>((zC (gV 1)<|zC (b1 (λρ=>((nU (gR 5) (λρ=>((zC (λρ=>((zC (λ_=>some<|D.str "end") zN) ρ).map D.tup) zN) ρ).map D.lst) zy) ρ).map D.lst) tK) zN) ρ).map D.tup)
def q8(ds:List D):Option D:=AI Mf D9 ds
noncomputable def GE(c p m:Int):Int:=c*48271%p%m
theorem yp(c p:Int){m:Int}(h:0<m):0<=GE c p m:=PD _ 01
theorem yq(c p:Int){m:Int}(h:0<m):GE c p m<m:=XC _ h
theorem Th{d:Int}(h0:0<=d)(h1:d<3):d=0\/d=1\/d=2:=by
 obtain⟨n,rfl⟩:=ED h0;show(by decide:∀n:Nat,n<3->(n:Int)=0\/(n:Int)=1\/(n:Int)=2) n (LD.mp h1)
theorem tL{c p m:Int}(hp:0<p)(hm:0<m):zP [.int c,.int p,.int m]>(.int<|GE c p m):=by
 exists 0,zP,Og,hp,hm,GE,NF,VH,WA
theorem zTh{ns:List Int}{k:Int}(h0:0<=k)(h:k<ns.length):NF (ns.map D.int) k>(.int<|ns.getD k.toNat 0):=by
 have h2:k.toNat<ns.length:=01
 simp[NF,VH,h0,h,h2]
theorem A6{ns:List Int}{k:Int}(h0:0<=k):zb [.lst<|ns.map D.int,.int k]>(.int<|ns.getD k.toNat 0):=by
 by_cases h:k<ns.length
 .exists 0,zb,O9,h,zTh h0 h,WA
 .have h2:ns.getD k.toNat 0=0:=by
   have:ns[k.toNat]?=none:=by simp;omega
   simp[uI,this]
  exists 0,zb,O9,h,h2,WA
noncomputable def jP(c m:Int):Bool:=decide (c%4=2)&&decide (2<m)
theorem Rz:yP [.int c,.int m]>(.bl<|jP c m):=by
 by_cases e:c%4=2
 .simp[yP,k9,AI,wF,b2,YX,jM,jS,AE,mG,CD,AS,jR,e,jP]
 .simp[yP,k9,AI,wF,b2,YX,jM,jS,AE,mG,CD,AS,jR,e,jP]
noncomputable def lc(k:Int):Nat:=(97+k).toNat
theorem zTi(h0:0<=i)(h1:i<26):NF (fA "abcdefghijklmnopqrstuvwxyz").cps.toList i>lc i:=by
 have q:∀k:Fin 26,NF (fA "abcdefghijklmnopqrstuvwxyz").cps.toList (k.1:Int)>lc (k.1:Int):=by decide +kernel
 have q:=q ⟨i.toNat,01⟩
 rwa [show((i.toNat:Nat):Int)=i from Int.toNat_of_nonneg h0]at q
theorem zJ0:(fA "abcdefghijklmnopqrstuvwxyz").length<=1000000:=by decide +kernel
theorem Oh{i:Int}(h0:0<=i)(h1:i<26):WA (.str<|fA "abcdefghijklmnopqrstuvwxyz") (.int i)>.str ⟨#[lc i]⟩:=by
 dsimp[WA,zJ0,if_true,zTi h0 h1,wA]
theorem Ti{i:Int}(h0:0<=i)(h1:i<26):97<=lc i/\lc i<=122:=by unfold lc;omega
def sg(c j:Int):Nat:=lc<|(GE c 9923 26+9*j)%26
theorem V2(c j:Int):97<=sg c j/\sg c j<=122:=Ti (PD _<|02) (XC _<|02)
theorem Ep:(fA "")=⟨#[]⟩:=by decide +kernel
theorem pick(l:List Nat):∀(k i:Nat),i+k<=l.length->((uA k).map<|λm=>i+m).filterMap (λj=>l.toArray[j]?)=(l.drop i).take k
 |0,i,_=>by simp
 |k+1,i,h=>by
  have hi:i<l.length:=01
  have e:(uA<|k+1).map (λm=>i+m)=i::(uA k).map (λm=>i+1+m):=by
   rw[xH,eA,JA]
   congr 1
   apply nB;intro a _;dsimp[Function.comp];omega
  rw[e,OC,pick l k (i+1)<|01];have z:l.toArray[i]?>l[i]:=by simp[hi]
  rw[z,cD hi,KO]
theorem zIz(a:Int)(n i:Nat)(h:a=(i:Int)):(uA n).map (λ(k:Nat)=>(a+1*(k:Int)).toNat)=(uA n).map (λm=>i+m):=by
 apply nB;intro k _;subst h;omega
theorem xf(l:List Nat)(n:Nat)(h:n<=l.length):Txt.slice ⟨l.toArray⟩ none (some (n:Int))=⟨(l.take n).toArray⟩:=by
 have z:HC none (some (n:Int)) 1 l.length=(uA n).map (λm=>0+m):=by
  unfold HC sliceRange;have h1:GT.gt (1:Int) 0:=02
  have h2:¬ ((n:Int)<0):=iJ.mpr<|iG n;have h3:max 0 (min (n:Int) (l.length:Int))=(n:Int):=by rw[XT<|LN.mpr h,oS<|iG n]
  dsimp[h1,if_true,h2,if_false,h3]
  have I:(if (0:Int)<(n:Int) then ((n:Int)-0+1-1)/1 else 0).toNat=n:=by
   split
   .rw[KN];omega
   .omega
  rw[I];show zIz 0 n 0 rfl
 unfold Txt.slice;have j:(⟨l.toArray⟩:Str).length=l.length:=by simp[uD]
 rw[j,z];split
 .rename_i q;have:n=l.length:=‹q›
  subst this;rw[gH]
 .have:=pick l n 0 01;rw[BL]at this;show congrArg (λx=>(⟨x.toArray⟩:Str)) this
theorem zMB(l:List Nat)(n:Nat)(h:n<=l.length):Txt.slice ⟨l.toArray⟩ (some (n:Int)) none=⟨(l.drop n).toArray⟩:=by
 have z:HC (some (n:Int)) none 1 l.length=(uA<|l.length-n).map (λm=>n+m):=by
  unfold HC sliceRange;have h1:GT.gt (1:Int) 0:=02
  have h2:¬ ((n:Int)<0):=iJ.mpr<|iG n;have h3:max 0 (min (n:Int) (l.length:Int))=(n:Int):=by rw[XT<|LN.mpr h,oS<|iG n]
  dsimp[h1,if_true,h2,if_false,h3]
  have I:(if (n:Int)<(l.length:Int) then ((l.length:Int)-(n:Int)+1-1)/1 else 0).toNat=l.length-n:=by
   rw[KN,Int.add_sub_cancel];split
   .show Int.toNat_sub ..
   .rename_i q;show(Nat.sub_eq_zero_of_le<|LN.mp<|iJ.mp q).symm
  rw[I];show zIz (n:Int) _ n rfl
 unfold Txt.slice;have j:(⟨l.toArray⟩:Str).length=l.length:=by simp[uD]
 rw[j,z];split
 .rename_i q
  have:n=0:=by
   have q':l.length-n=l.length:=‹q›
   cases l with
   |nil=>simpa using h
   |cons _ _=>simp at q';omega
  subst this;rfl
 .have:=pick l (l.length-n) n 01
  have e3:(l.drop n).take (l.length-n)=l.drop n:=by
   rw[<- bK];show gH
  rw[e3]at this;show congrArg (λx=>(⟨x.toArray⟩:Str)) this
theorem zOF(a b:List Nat):(⟨a.toArray⟩:Str)++(⟨b.toArray⟩:Str)=⟨(a++b).toArray⟩:=by
 change YL _ _=_;simp[YL]
theorem Pp(a:List Nat):(⟨a.toArray⟩:Str).length=a.length:=by simp[uD]
theorem j0:Txt.join ⟨#[]⟩ []=⟨([]:List Nat).toArray⟩:=rfl
theorem A0(A:Nat):Txt.join ⟨#[]⟩ [⟨#[A]⟩]=⟨[A].toArray⟩:=rfl
theorem B0(A B:Nat):Txt.join ⟨#[]⟩ [⟨#[A]⟩,⟨#[B]⟩]=⟨[A,B].toArray⟩:=rfl
theorem Pq(A:Nat):(⟨#[A]⟩:Str).length=1:=rfl
theorem Pr:(⟨#[]⟩:Str).length=0:=rfl
theorem zQR(A:Nat):(⟨#[A]⟩:Str)=⟨[A].toArray⟩:=rfl
theorem zOG(c:Int):∃T:List Nat,(∀x∈T,97<=x/\x<=122)/\T.length<=2/\∀s1 s3 s4 s5:Sl,J4 [!.int c,s1,!.str (fA "abcdefghijklmnopqrstuvwxyz"),s3,s4,s5]=Lp [!.int c,s1,!.str (fA "abcdefghijklmnopqrstuvwxyz"),s3,!.str ⟨T.toArray⟩,s5]:=by
 have h1:=yp c 9887 (m:=3) 02;have h2:=yq c 9887 (m:=3) 02;have g0:=Oh (yp (c+0) 9941 (m:=26)<|02) (yq (c+0) 9941 (m:=26)<|02);have g1:=Oh (yp (c+3) 9941 (m:=26)<|02) (yq (c+3) 9941 (m:=26)<|02);have z:=Ti (yp (c+0) 9941 (m:=26)<|02) (yq (c+0) 9941 (m:=26)<|02);have I:=Ti (yp (c+3) 9941 (m:=26)<|02) (yq (c+3) 9941 (m:=26)<|02);have r2:uA 2=[0,1]:=rfl;rcases Th h1 h2 with e|e|e
 .show⟨[],by simp,by simp,λs1 s3 s4 s5=>by exists 0,J4,tL,e,r2,VX,iS,Ep,j0,Pq,Pr,rM,lN,WG,pS⟩
 .show⟨[lc<|GE (c+0) 9941 26],‹z›,by simp,λs1 s3 s4 s5=>by exists 0,J4,tL,e,r2,VX,iS,Ep,A0,Pq,Pr,rM,lN,WG,CL,g0⟩
 .show⟨[lc<|GE (c+0) 9941 26,lc<|GE (c+3) 9941 26],‹And.intro z I›,by simp,λs1 s3 s4 s5=>by exists 0,J4,tL,e,r2,VX,iS,Ep,B0,Pq,Pr,rM,lN,WG,JF,g0,g1⟩
theorem zTk(c:Int):∃pre post:List Nat,(∀x∈pre++post,97<=x/\x<=122)/\pre.length+post.length<=2/\∀j:Int,yI [.int c,.int j]>.str ⟨(pre++sg c j::post).toArray⟩:=by
 obtain⟨T,o,q1,S⟩:=zOG c;have h1:=yp c 9883 (m:=(T.length:Int)+1) 01;have h2:=yq c 9883 (m:=(T.length:Int)+1) 01;obtain⟨n,O⟩:∃n:Nat,GE c 9883 ((T.length:Int)+1)=(n:Int):=⟨(GE c 9883<|(T.length:Int)+1).toNat,01⟩
 have z:n<=T.length:=01
 have hs:∀j:Int,WA (.str<|fA "abcdefghijklmnopqrstuvwxyz") (.int<|(GE c 9923 26+9*j)%26)>.str ⟨#[sg c j]⟩:=λj=>Oh (PD _<|02) (XC _<|02)
 have I:=xf T n z;have J:=zMB T n z;have U:T.length<=1000000:=01
 have Y:(0:Int)<(T.length:Int)+1:=01
 have l1:(T.take n).length<=999999:=by simp;omega
 have l2:(T.take n).length+1+(T.drop n).length<=1000000:=by simp;omega
 refine⟨T.take n,T.drop n,by rwa [List.take_append_drop],by simp;omega,λj=>?_⟩
 exists 0,yI,Mu,Lp,S,tL,hs,Pp,O,I,J,zQR,zOF,U,Y,l1,l2,eB,WB
def Lt(a b:Str):Prop:=vR a b=true
theorem Lt.def{a b:Str}:Lt a b↔a.cps.toList<b.cps.toList:=by simp[Lt,vR]
theorem zOH{a b:Str}(h:a.cps.toList=b.cps.toList):a=b:=by
 cases a;cases b;dsimp[sM];show FJ.mp h
theorem Lt.trans(h:Lt a b)(k:Lt b c):Lt a c:=by
 rw[Lt.def]at *;show CW h k
theorem Lt.irrefl:¬ Lt a a:=by rw[Lt.def];show eI _
theorem Lt.total(h:¬ Lt b a)(n:a≠b):Lt a b:=by
 rw[Lt.def]at *;rcases List.le_total (l₁:=a.cps.toList) (l₂:=b.cps.toList) with q|q
 .rcases Classical.em (a.cps.toList<b.cps.toList) with z|z
  .show z
  .show absurd (zOH<|fH q<|HD.mp z) n
 .show absurd (zOH<|fH (HD.mp h) q) n
theorem Lt.ne(h:Lt a b):a≠b:=λe=>by subst e;show Lt.irrefl h
abbrev FN(l:List Str):Prop:=l.Pairwise Lt
theorem Pe:∀{l:List Str},y∈HN x l↔y=x\/y∈l
 | []=>by simp[HN]
 |z::l=>by
  dsimp[HN];split
  .dsimp[lA,Pe (l:=l)];constructor
   .rintro(h|h|h)<;>simp[h]
   .rintro(h|h|h)<;>simp[h]
  .simp
theorem wm:∀{l:List Str},FN l->(∀y∈l,x≠y)->FN (HN x l)
 | [],_,_=>by simp[HN]
 |z::l,h,n=>by
  obtain⟨h1,h2⟩:=MA.mp h;dsimp[HN];split
  .rename_i q;refine MA.mpr ⟨λy hy=>?_,wm h2 λy hy=>n y<|bA _ hy⟩;rcases Pe.mp hy with rfl|hy
   .show q
   .show h1 y hy
  .rename_i q;have hz:Lt x z:=Lt.total (by simpa[Lt] using q) (n z gA)
   show MA.mpr ⟨λy hy=>by
    rcases lA.mp hy with rfl|hy
    .show hz
    .show hz.trans<|h1 y hy,h⟩
theorem Z9:∀{l:List Str},y∈UM l↔y∈l
 | []=>by simp[UM]
 |x::l=>by dsimp[UM,Pe,Z9 (l:=l),lA]
theorem zK5:∀{l:List Str},(HN x l).length=l.length+1
 | []=>rfl
 |z::l=>by dsimp[HN];split<;>simp[zK5 (l:=l)]
theorem W4:∀{l:List Str},(UM l).length=l.length
 | []=>rfl
 |x::l=>by dsimp[UM,zK5,W4 (l:=l),kA]
theorem L4:∀{l:List Str},l.Nodup->FN (UM l)
 | [],_=>by simp[UM]
 |x::l,h=>by
  obtain⟨h1,h2⟩:=OB.mp h;show wm (L4 h2) λy hy e=>h1 (by subst e;show Z9.mp hy)
theorem zQS(l:List Str):RD.iS (l.map D.str)>l:=by
 induction l with
 |nil=>rfl
 |cons x xs ih=>simp[RD.iS,ih]
theorem zI0{l:List Str}(h:l.length<64):ZR (.lst<|l.map D.str)>(UM l).map D.str:=by
 cases l with
 |nil=>rfl
 |cons x xs=>
  have e:=zQS (x::xs);dsimp[eA]at e;dsimp[ZR,JQ,aW,dA,eA,kA,iA,UX];rw[if_pos ‹h›,e];simp
def eM(w:Str):Prop:=1<=w.length/\w.length<=3/\∀x∈w.cps.toList,97<=x/\x<=122
theorem oW{α:Type}{l:List α}(h:l.length=3):∃a b c,l=[a,b,c]:=by
 match l,h with
 | [a,b,c],_=>show⟨a,b,c,rfl⟩
theorem JT{α:Type}{l:List α}(h:l.length=2):∃a b,l=[a,b]:=by
 match l,h with
 | [a,b],_=>show⟨a,b,rfl⟩
theorem len1{α:Type}{l:List α}(h:l.length=1):∃a,l=[a]:=by
 match l,h with
 | [a],_=>show⟨a,rfl⟩
theorem zQT(c:Int):∃W:Int->Str,(∀j,eM<|W j)/\(∀j,yI [.int c,.int j]>(.str<|W j))/\W 0≠W 1/\W 0≠W 2/\W 1≠W 2:=by
 obtain⟨pre,post,h1,h2,h3⟩:=zTk c
 have inj:∀i j:Int,sg c i≠sg c j->(⟨(pre++sg c i::post).toArray⟩:Str)≠⟨(pre++sg c j::post).toArray⟩:=λi j n e=>by
  have I:=congrArg (λs:Str=>s.cps.toList) e;simp at I;show n I
 have b0:=yp c 9923 (m:=26) 02;have b1:=yq c 9923 (m:=26) 02;obtain⟨n,J⟩:=ED b0;rw[J]at b1;have z:=(by decide:∀n:Nat,n<26->lc (((n:Int)+9*0)%26)≠lc (((n:Int)+9*1)%26)/\lc (((n:Int)+9*0)%26)≠lc (((n:Int)+9*2)%26)/\lc (((n:Int)+9*1)%26)≠lc (((n:Int)+9*2)%26)) n<|LD.mp b1;rw[<- J]at z;refine⟨λj=>⟨(pre++sg c j::post).toArray⟩,λj=>⟨by simp[uD];omega,by simp[uD];omega,λx hx=>?_⟩,h3,inj 0 1 z.1,inj 0 2 z.2.1,inj 1 2 z.2.2⟩
 .simp at hx;rcases hx with hx|rfl|hx
  .show h1 x (by simp[hx])
  .show V2 c j
  .show h1 x (by simp[hx])
inductive Pl where
 |fin|tell (a b:Int) (ch:List (Str×Int))
noncomputable def uE(p:Str×Int):D:=.tup [.str p.1,.int p.2]
def KB:Pl->D
 |.fin=>.tup [.str "end"]
 |.tell a b ch=>.tup [.str "tell",.int a,.int b,.tup<|ch.map uE]
structure RM(m:Int)(P:Int->Prop)(a b:Int)(ch:List (Str×Int)):Prop where
 a0:0<=a
 a1:a<m
 b0:0<=b
 b1:b<m
 ne:a≠b
 l0:1<=ch.length
 l1:ch.length<=3
 rs:FN (ch.map (·.1))
 wd:∀p∈ch,eM p.1
 nx:∀p∈ch,P p.2
def mJ(m:Int)(P:Int->Prop):Pl->Prop
 |.fin=>True
 |.tell a b ch=>RM m P a b ch
theorem mJ.mono{P Q:Int->Prop}(h:∀n,P n->Q n):∀{p:Pl},mJ m P p->mJ m Q p
 |.fin,_=>trivial
 |.tell a b ch,k=>⟨k.a0,k.a1,k.b0,k.b1,k.ne,k.l0,k.l1,k.rs,k.wd,λp hp=>h _<|k.nx p hp⟩
def UG(m:Int)(P:Int->Prop)(ds:List D):Prop:=∃ps:List Pl,ds=ps.map KB/\∀p∈ps,mJ m P p/\p≠.fin
noncomputable def pr(e h a b:Int):Nat:=if a=e/\b=h then 1 else 0
theorem Tj(e h a b:Int):pr e h a b<=1:=by unfold pr;split<;>omega
theorem EQ{e h a b j b':Int}(n:a≠j\/b≠b'):pr e h a b+pr e h j b'<=1:=by unfold pr;split<;>split<;>omega
def pU(e h:Int):D->Nat
 |.tup [_,.int a,.int b,.tup ch]=>ch.length*pr e h a b
 |_=>0
noncomputable def VG(e h:Int):List D->Nat
 | []=>0
 |d::ds=>pU e h d+VG e h ds
theorem An(e h:Int):∀xs ys:List D,VG e h (xs++ys)=VG e h xs+VG e h ys
 | [],_=>by simp[VG]
 |x::xs,ys=>by dsimp[fC,VG,An e h xs ys];omega
theorem UG.nil{P:Int->Prop}:UG m P []:=⟨[],rfl,by simp⟩
theorem UG.app{P:Int->Prop}(h:UG m P xs)(k:UG m P ys):UG m P (xs++ys):=by
 obtain⟨p,rfl,h⟩:=h;obtain⟨q,rfl,k⟩:=k;refine⟨p++q,by simp,λx hx=>?_⟩;rcases nA.mp hx with hx|hx
 .show h x hx
 .show k x hx
theorem UG.mono{P Q:Int->Prop}(h:UG m P ds)(k:∀n,P n->Q n):UG m Q ds:=by
 obtain⟨ps,e,h⟩:=h;show⟨ps,e,λp hp=>⟨(h p hp).1.mono k,(h p hp).2⟩⟩
theorem UG.cons{P:Int->Prop}(p:Pl)(hp:mJ m P p)(h:UG m P ds)(hf:p≠.fin:=by simp):UG m P (KB p::ds):=by
 obtain⟨ps,rfl,h⟩:=h
 show⟨p::ps,rfl,λq hq=>by
  rcases lA.mp hq with rfl|hq
  .show⟨hp,hf⟩
  .show h q hq⟩
theorem UG.t1{P:Int->Prop}(h1:0<=a/\a<m)(h2:0<=b/\b<m)(h3:a≠b)(z:eM w)(j:P n)(h:UG m P ds):
  UG m P (.tup [.str "tell",.int a,.int b,.tup [.tup [.str w,.int n]]]::ds):=
 UG.cons (.tell a b [(w,n)]) ⟨h1.1,h1.2,h2.1,h2.2,h3,by simp,by simp,by simp,‹z›,‹j›⟩ h
theorem r2:uA 2=[0,1]:=rfl
theorem r3:uA 3=[0,1,2]:=rfl
theorem QV{N:List Str}{F:aC}{ds:List D}{d:D}(h:F (ds.map Sl.v++pA (N.length-ds.length) .un)>.rt d):AI N F ds>d:=by unfold AI;rw[h];rfl
theorem zl{F G:aC}{ρ ρ':lB}(h:F ρ>.nx ρ'):sq F G ρ=G ρ':=by dsimp[sq,h,dA]
theorem zWJ{F G:aC}(h:F ρ>.rt d):sq F G ρ>.rt d:=by dsimp[sq,h,dA]
noncomputable def b2i(b:Bool):Int:=if b then 1 else 0
theorem FI{α:Type}{a:α}{l:List α}:NF (a::l) 0>a:=by simp[NF,VH]
theorem sN{α:Type}{a b:α}{l:List α}:NF (a::b::l) 1>b:=by
 unfold NF VH;rw[if_pos<|02,if_pos (by simp;omega)];rfl
theorem at2{α:Type}{a b c:α}{l:List α}:NF (a::b::c::l) 2>c:=by
 unfold NF VH;rw[if_pos<|02,if_pos (by simp;omega)];rfl
theorem OY{α:Type}{a b c d:α}{l:List α}:NF (a::b::c::d::l) 3>d:=by
 unfold NF VH;rw[if_pos<|02,if_pos (by simp;omega)];rfl
theorem zOI{α:Type}(l:List α)(x:α):NF (l++[x]) (-1)>x:=by
 unfold NF VH;rw[if_neg<|02,if_pos (by simp;omega)];have e:(-1+(((l++[x]).length:Nat):Int)).toNat=l.length:=by simp;omega
 rw[dA,e];simp
theorem jT{α:Type}{xs:List α}{i:Nat}{x:α}(h:xs[i]?>x):NF xs (i:Int)>x:=by
 have j:=(BA.mp h).1;unfold NF VH;rw[if_pos<|01,if_pos<|01,dA];simpa using h
theorem zI1{n:Nat}(h:n<=1000000):RD.inR (n:Int)=true:=by
 simp[RD.inR];omega
theorem TR{f:dD}{g:D->lB->Option lB}{B:aC}(h:f ρ>ds):zn f g B ρ=zi g B ds ρ:=by dsimp[zn,h,dA]
theorem FQ{f:dD}{ρ:lB}{n:Nat}(h:f ρ>[.int (n:Int)])(j:n<=1000000):UJ f ρ>rng 0 n:=by
 unfold UJ;rw[h,dA];show(if_pos<|zI1 j).trans (by rw[rB])
theorem ym{i:Nat}{f:dC}{ρ:lB}{d:D}(h:f ρ>d):qF i f ρ>(.nx<|ρ.set i<|.v d):=by unfold qF;rw[h,wA]
theorem U5{f:dC}(h:f ρ>d):wF f ρ>.rt d:=by unfold wF;rw[h,wA]
theorem qK{A B:dC}{op:D->D->Option D}{ρ:lB}{a b:D}{r:Option D}(h1:A ρ>a)(h2:B ρ>b)(h:op a b=r):b2 A B op ρ=r:=by
 rw[<- h];dsimp[b2,h1,h2,dA]
theorem zY{A:dC}{B:dD}{ρ:lB}{a:D}{bs:List D}(h:A ρ>a)(k:B ρ>bs):(zC A B) ρ>(a::bs):=by unfold zC;rw[h,k];rfl
theorem pX{m:Nat}{f:dD}{g:D->lB->Option lB}{p:iF}{e:dC}{ρ:lB}{ds ys:List D}(h1:f ρ>ds)(h2:ds.length<=1000000)(h3:zR g p e ds (ρ++pA m .un)>ys):zK m f g p e ρ>ys:=by unfold zK;rw[h1,dA,if_pos h2,h3]
theorem qh{α:Type}{g:D->lB->Option lB}{f:dC}{ρ:lB}(emb out:α->D):∀xs:List α,(∀x∈xs,∃ρ1,g (emb x) ρ>ρ1/\f ρ1>out x)->zR g (λ_=>some true) f (xs.map emb) ρ>xs.map out
 | [],_=>rfl
 |x::xs,h=>by
  obtain⟨ρ1,j,z⟩:=h x gA;have ih:=qh emb out xs λy hy=>h y<|bA _ hy
  dsimp[eA,zR,j,dA,if_true,z,ih,wA]
theorem UR{g:D->lB->Option lB}{F:aC}(h:g d ρ>ρ1)(k:F ρ1>.nx ρ'):zi g F (d::ds) ρ=zi g F ds ρ':=by dsimp[zi,h,k,dA]
theorem zWK(c:Int){n:Nat}(Y:n<=3):∃(W:Int->Str)(ws:List Str),(∀j,yI [.int c,.int j]>(.str<|W j))/\ws.length=n/\FN ws/\(∀w∈ws,eM w)/\ZR (.lst<|((uA n).map λ(k:Nat)=>W<|0+(k:Int)).map D.str)>ws.map D.str:=by
 obtain⟨W,O,S,z,I,J⟩:=zQT c;refine⟨W,UM<|(uA n).map λ(k:Nat)=>W<|0+(k:Int),S,by rw[W4];simp,L4 ?_,λw U=>?_,zI0 (by simp;omega)⟩
 .have:n=0\/n=1\/n=2\/n=3:=01
  rcases this with rfl|rfl|rfl|rfl<;>simp[r2,r3,z,I,J]
 .obtain⟨k,_,rfl⟩:=LA.mp<|Z9.mp U;show O _
theorem W2(c:Int):∃(W:Int->Str)(z w1:Str),(∀j,yI [.int c,.int j]>(.str<|W j))/\FN [z,w1]/\eM z/\eM w1/\ZR (.lst [.str<|W 0,.str<|W 1])>[.str z,.str w1]:=by
 obtain⟨W,ws,I,l,rs,ok,J⟩:=zWK c (n:=2) 02;obtain⟨z,w1,rfl⟩:=JT l;show⟨W,z,w1,I,rs,ok z (by simp),ok w1 (by simp),by simpa[r2] using J⟩
theorem B4(c:Int):∃ws:List Str,(ws.length:Int)=1+GE c 9949 3/\FN ws/\(∀w∈ws,eM w)/\∀a1 a2 j I J d,yX [!.int c,a1,a2,j,I,J,!.lst (ws.map D.str),.un,.un,.un,.un,.un,.un]>.rt d->Ku [!.int c,a1,a2,j,I,J,.un,.un,.un,.un,.un,.un,.un]>.rt d:=by
 have h0:=yp c 9949 (m:=3) 02;have h1:=yq c 9949 (m:=3) 02;obtain⟨n,U⟩:∃n:Nat,1+GE c 9949 3=(n:Int):=⟨(1+GE c 9949 3).toNat,01⟩
 obtain⟨W,ws,S,l,rs,ok,O⟩:=zWK c (n:=n) 01;refine⟨ws,01,rs,ok,λa1 a2 j I J d z=>(zl<|ym (d:=.lst<|ws.map D.str) ?_).trans z⟩;have k:zP [.int c,.int 9949,.int 3]>(.int<|GE c 9949 3):=tL 02 02;have e:=qh (g:=gN 13) (f:=λρ=>((zC (gV 0)<|zC (gV 13) zN) ρ).bind yI) (ρ:=[!.int c,a1,a2,j,I,J,.un,.un,.un,.un,.un,.un,.un,.un]) (λ(i:Nat)=>D.int<|0+(i:Int)) (λi=>D.str<|W<|0+(i:Int)) (uA n) λi _=>⟨_,rfl,S _⟩
 have q:zK 1 (UJ<|zC (b2 (zM 1) (λρ=>((zC (gV 0)<|zC (zM 9949)<|zC (zM 3) zN) ρ).bind zP) qG) zN) (gN 13) (λ_=>some true) (λρ=>((zC (gV 0)<|zC (gV 13) zN) ρ).bind yI) [!.int c,a1,a2,j,I,J,.un,.un,.un,.un,.un,.un,.un]=_:=pX (FQ (n:=n) (zY (qK (a:=.int 1) rfl k<|congrArg (λx=>some<|D.int x) U) rfl)<|01) (by simp[rng];omega) e;refine(congrArg (λo=>gC D.lst<|RB (gC D.lst o) ZR) q).trans ?_;rw[JA]at O;rw[wA,dA];show congrArg (gC D.lst) O
theorem md{m one r:Int}(hm:m=2\/m=3\/m=4)(a0:0<=one)(a1:one<m)(b0:0<=r)(b1:r<m-1):0<=(one+1+r)%m/\(one+1+r)%m<m/\one≠(one+1+r)%m:=
 ⟨PD _<|01,XC _<|01,by rcases hm with rfl|rfl|rfl<;>omega⟩
theorem Io(c m:Int)(hm:m=2\/m=3\/m=4):∃(one:Int)(os:List Int),(0<=one/\one<m)/\(os.length:Int)=m-1/\os.Nodup/\(∀o∈os,0<=o/\o<m/\one≠o)/\∀st j d,Ku [!.int c,.v st,!.int m,.v j,!.int one,!.lst (os.map D.int),.un,.un,.un,.un,.un,.un,.un]>.rt d->qd [.int c,st,.int m,j]>d:=by
 have m0:0<m:=01
 have m1:0<m-1:=01
 have a0:=yp c 9929 m0;have a1:=yq c 9929 m0;have b0:=yp c 9901 m1;have b1:=yq c 9901 m1;have k1:=tL (c:=c) (p:=9929) 02 m0;have k2:=tL (c:=c) (p:=9901) 02 m1;generalize GE c 9929 m=one at a0 a1 k1;generalize GE c 9901 (m-1)=r at b0 b1 k2;refine⟨one,(uA (m-1).toNat).map λ(k:Nat)=>(one+1+(0+(k:Int)+r)%(m-1))%m,⟨a0,a1⟩,by simp;omega,?_,?_,λst j d z=>QV<|(zl<|ym k1).trans<|(zl<|ym (d:=.lst<|((uA (m-1).toNat).map λ(k:Nat)=>(one+1+(0+(k:Int)+r)%(m-1))%m).map D.int) ?_).trans z⟩
 .obtain⟨x,rfl⟩:=ED a0;obtain⟨y,rfl⟩:=ED b0;have z:∀n:Nat,n<5->∀x:Nat,x<n->∀y:Nat,y<n-1->((uA ((n:Int)-1).toNat).map λ(k:Nat)=>((x:Int)+1+(0+(k:Int)+(y:Int))%((n:Int)-1))%(n:Int)).Nodup:=by decide +kernel
  rcases hm with rfl|rfl|rfl
  .show z 2 02 x (LD.mp a1) y<|LD.mp b1
  .show z 3 02 x (LD.mp a1) y<|LD.mp b1
  .show z 4 02 x (LD.mp a1) y<|LD.mp b1
 .intro o I;obtain⟨k,hk,rfl⟩:=LA.mp I;show md hm a0 a1 (PD _<|01)<|XC _ m1
 .have e:=qh (g:=gN 13) (f:=b2 (b2 (b2 (gR 4) (zM 1) qG) (b2 (b2 (gR 13) (λρ=>((zC (gV 0)<|zC (zM 9901)<|zC (b2 (gR 2) (zM 1) OK) zN) ρ).bind zP) qG) (b2 (gR 2) (zM 1) OK) jM) qG) (gR 2) jM) (ρ:=[!.int c,.v st,!.int m,.v j,!.int one,.un,.un,.un,.un,.un,.un,.un,.un,.un]) (λ(i:Nat)=>D.int<|0+(i:Int)) (λk=>D.int<|(one+1+(0+(k:Int)+r)%(m-1))%m) (uA (m-1).toNat) λi _=>⟨_,rfl,by exists 0,k2,m0,m1,NF,VH,WA⟩
  rw[JA];show congrArg (gC D.lst) (pX (FQ (n:=(m-1).toNat) (congrArg (λx=>some [D.int x])<|show m-1=(((m-1).toNat:Nat):Int) by omega)<|01) (by simp[rng];omega) e)
def tl(a b:Int)(l:List (Str×Int)):D:=KB<|.tell a b l
theorem kT{e h a b:Int}{l:List (Str×Int)}:pU e h (tl a b l)=l.length*pr e h a b:=by
 change(l.map uE).length*_=_;rw[iA]
theorem zTn{e h a x y z:Int}(h1:x≠y)(h2:x≠z)(h3:y≠z):pr e h a x+pr e h a y+pr e h a z<=1:=by
 have:=@EQ e h a x a y (.inr h1);have:=@EQ e h a x a z (.inr h2);have:=@EQ e h a y a z (.inr h3);omega
theorem zRm{e h a x y:Int}(n1:a≠x)(j:x≠y):pr e h a x+pr e h a y+pr e h x y<=1:=by
 have:=@EQ e h a x a y (.inr j);have:=@EQ e h a x x y (.inl n1);have:=@EQ e h a y x y (.inl n1);omega
theorem zWL{e h a x y z:Int}(n1:a≠x)(j:x≠y)(I:y≠z):pr e h a x+pr e h a y+pr e h x y+pr e h x z<=1:=by
 have:=@zRm e h a x y n1 j;have:=@EQ e h a x x z (.inl n1);have:=@EQ e h a y x z (.inl n1);have:=@EQ e h x y x z (.inr I);omega
theorem UG.tW{m:Int}{P:Int->Prop}{ds:List D}{a b:Int}{l:List (Str×Int)}(h1:0<=a/\a<m)(h2:0<=b/\b<m)(h3:a≠b)(j:L7 1 l.length=true/\L7 l.length 3=true)(hr:FN (l.map (·.1)))(I:∀w∈l.map (·.1),eM w)(z:∀n∈l.map (·.2),P n)(h:UG m P ds):UG m P (tl a b l::ds):=
 UG.cons (.tell a b l) ⟨h1.1,h1.2,h2.1,h2.2,h3,VB j.1,VB j.2,hr,λ_ k=>I _<|IB k,λ_ k=>z _<|IB k⟩ h
theorem Sa{l:List (Str×Int)}(k:L7 l.length 2=true):VG e h [tl a b l]<=2:=by
 rw[VG,kT];show Nat.mul_le_mul (VB k)<|Tj e h a b
theorem i2{s a b L:Int}{P:Prop}(h:0<a+b/\a+b<L):(s<s+a+b/\s+a+b<s+L)\/P:=.inl 01
theorem i3{s a b c L:Int}{P:Prop}(h:0<a+b+c/\a+b+c<L):(s<s+a+b+c/\s+a+b+c<s+L)\/P:=.inl 01
theorem i4{s a b c d L:Int}{P:Prop}(h:0<a+b+c+d/\a+b+c+d<L):(s<s+a+b+c+d/\s+a+b+c+d<s+L)\/P:=.inl 01
theorem X0(j:jP c m=false)(z:Kt [!.int c,a1,!.int m,a3,a4,a5,a6,.un,.un,.un,.un,.un,.un]>.rt d):yX [!.int c,a1,!.int m,a3,a4,a5,a6,.un,.un,.un,.un,.un,.un]>.rt d:=by
 unfold yX;refine(zl ?_).trans z
 exists 0,JF,r2,r3,CL,WG,aU,Rz,j,NF,VH,WA
theorem P0(j:jP c m=true)(e:yw [a1,a3,a4,a5,a6]>d):yX [!.int c,.v a1,!.int m,.v a3,.v a4,.v a5,.v a6,.un,.un,.un,.un,.un,.un]>.rt d:=by
 unfold yX;refine zWJ ?_
 exists 0,JF,r2,r3,CL,WG,aU,Rz,j,e,NF,VH,WA
theorem WO{a b c:Prop}(h:a/\b/\c):(a/\b)/\c:=⟨⟨h.1,h.2.1⟩,h.2.2⟩
def TG(m st g0 g1 g2:Int)(ds:List D):Prop:=UG m (λn=>(st<n/\n<st+(ds.length:Int))\/n=g0\/n=g1\/n=g2) ds/\∀e h,VG e h ds<=3
theorem zTo{st g0 g1 g2 one m:Int}{os:List Int}{ws:List Str}(rs:FN ws)(U:∀w∈ws,eM w)(h1:0<=one/\one<m)(nd:os.Nodup)(S:∀o∈os,0<=o/\o<m/\one≠o)(lo:os.length=2\/os.length=3)(lw:ws.length=1\/ws.length=2\/ws.length=3):
  ∃ds,yw [.int st,.lst [.int g0,.int g1,.int g2],.int one,.lst<|os.map D.int,.lst<|ws.map D.str]>.lst ds/\(ds.length:Int)=1+(ws.length:Int)*(os.length:Int)/\TG m st g0 g1 g2 ds:=by
 rcases lo with lo|lo
 case' inl=>
  obtain⟨z,I,rfl⟩:=JT lo;obtain⟨Z,n0⟩:=WO (S z<|by simp);obtain⟨q1,n1⟩:=WO (S I<|by simp);have d0:z≠I:=‹nd›
 case' inr=>
  obtain⟨z,I,J,rfl⟩:=oW lo;obtain⟨Z,n0⟩:=WO (S z<|by simp);obtain⟨q1,n1⟩:=WO (S I<|by simp);obtain⟨q2,n2⟩:=WO (S J<|by simp);obtain⟨⟨d0,d1⟩,Y⟩:(z≠I/\z≠J)/\I≠J:=‹nd›
 all_goals rcases lw with lw|lw|lw
 case' inl.inl=>
  obtain⟨j,rfl⟩:=len1 lw;refine⟨[tl one z [(j,st+1+0)],tl one I [(j,st+1+0+1)],tl z I [(j,g0)]],by kernel_rfl,rfl,?_,λe h=>?_⟩
 case' inl.inr.inl=>
  obtain⟨j,w1,rfl⟩:=JT lw;refine⟨[tl one z [(j,st+1+0),(w1,st+1+2)],tl one I [(j,st+1+0+1)],tl z I [(j,g0)],tl one I [(j,st+1+2+1)],tl z I [(w1,g1)]],by kernel_rfl,rfl,?_,λe h=>?_⟩
 case' inl.inr.inr=>
  obtain⟨j,w1,O,rfl⟩:=oW lw;refine⟨[tl one z [(j,st+1+0),(w1,st+1+2),(O,st+1+4)],tl one I [(j,st+1+0+1)],tl z I [(j,g0)],tl one I [(j,st+1+2+1)],tl z I [(w1,g1)],tl one I [(j,st+1+4+1)],tl z I [(O,g2)]],by kernel_rfl,rfl,?_,λe h=>?_⟩
 case' inr.inl=>
  obtain⟨j,rfl⟩:=len1 lw;refine⟨[tl one z [(j,st+1+0)],tl one I [(j,st+1+0+1)],tl z I [(j,st+1+0+1+1)],tl z J [(j,g0)]],by kernel_rfl,rfl,?_,λe h=>?_⟩
 case' inr.inr.inl=>
  obtain⟨j,w1,rfl⟩:=JT lw;refine⟨[tl one z [(j,st+1+0),(w1,st+1+3)],tl one I [(j,st+1+0+1)],tl z I [(j,st+1+0+1+1)],tl z J [(j,g0)],tl one I [(j,st+1+3+1)],tl z I [(w1,st+1+3+1+1)],tl z J [(w1,g1)]],by kernel_rfl,rfl,?_,λe h=>?_⟩
 case' inr.inr.inr=>
  obtain⟨j,w1,O,rfl⟩:=oW lw;refine⟨[tl one z [(j,st+1+0),(w1,st+1+3),(O,st+1+6)],tl one I [(j,st+1+0+1)],tl z I [(j,st+1+0+1+1)],tl z J [(j,g0)],tl one I [(j,st+1+3+1)],tl z I [(w1,st+1+3+1+1)],tl z J [(w1,g1)],tl one I [(j,st+1+6+1)],tl z I [(O,st+1+6+1+1)],tl z J [(O,g2)]],by kernel_rfl,rfl,?_,λe h=>?_⟩
 all_goals dsimp[kA,KC,VG,kT]
 all_goals first|(have:=@zRm e h _ _ _ n0 d0;omega)|(have:=@zWL e h _ _ _ _ n0 d0 Y;omega)|(repeat first|show UG.nil|refine UG.tW (by assumption) (by assumption) (by assumption) ⟨rfl,rfl⟩ rs U ?_ ?_|refine UG.t1 (by assumption) (by assumption) (by assumption) (U _<|by repeat constructor) ?_ ?_|show QC _|refine TB.mpr ⟨?_,?_⟩|show .inr (.inl rfl)|show .inr (.inr<|.inl rfl)|show .inr (.inr<|.inr rfl)|show i2 02|show i3 02|show i4 02)
theorem zQU{c st g0 g1 g2 one m:Int}{os:List Int}{ws:List Str}(rs:FN ws)(U:∀w∈ws,eM w)(h1:0<=one/\one<m)(nd:os.Nodup)(S:∀o∈os,0<=o/\o<m/\one≠o)(lo:(os.length:Int)=m-1)(hm:m=2\/m=3\/m=4)(lw:ws.length=1\/ws.length=2\/ws.length=3):
  ∃ds,Kt [!.int c,!.int st,!.int m,!.lst [.int g0,.int g1,.int g2],!.int one,!.lst (os.map D.int),!.lst (ws.map D.str),.un,.un,.un,.un,.un,.un]>(.rt<|.lst ds)/\(ds.length:Int)=1+(ws.length:Int)*(m-2)/\TG m st g0 g1 g2 ds:=by
 rcases hm with rfl|rfl|rfl
 case' inl=>
  obtain⟨z,rfl⟩:=len1 (l:=os) 01;obtain⟨Y,n0⟩:=WO (S z<|by simp)
 case' inr.inl=>
  obtain⟨z,I,rfl⟩:=JT (l:=os) 01;obtain⟨Y,n0⟩:=WO (S z<|by simp);obtain⟨q1,n1⟩:=WO (S I<|by simp);have d0:z≠I:=‹nd›
 case' inr.inr=>
  obtain⟨z,I,J,rfl⟩:=oW (l:=os) 01;obtain⟨Y,n0⟩:=WO (S z<|by simp);obtain⟨q1,n1⟩:=WO (S I<|by simp);obtain⟨q2,n2⟩:=WO (S J<|by simp);obtain⟨⟨d0,d1⟩,Z⟩:(z≠I/\z≠J)/\I≠J:=‹nd›
 all_goals rcases lw with lw|lw|lw
 case' inl.inl=>
  obtain⟨j,rfl⟩:=len1 lw;refine⟨[tl one z [(j,g0)]],by kernel_rfl,rfl,?_,λe h=>?_⟩
 case' inl.inr.inl=>
  obtain⟨j,w1,rfl⟩:=JT lw;refine⟨[tl one z [(j,g0),(w1,g1)]],by kernel_rfl,rfl,?_,λe h=>?_⟩
 case' inl.inr.inr=>
  obtain⟨j,w1,O,rfl⟩:=oW lw;refine⟨[tl one z [(j,g0),(w1,g1),(O,g2)]],by kernel_rfl,rfl,?_,λe h=>?_⟩
 case' inr.inl.inl=>
  obtain⟨j,rfl⟩:=len1 lw;refine⟨[tl one z [(j,st+1+0+0)],tl one I [(j,g0)]],by kernel_rfl,rfl,?_,λe h=>?_⟩
 case' inr.inl.inr.inl=>
  obtain⟨j,w1,rfl⟩:=JT lw;refine⟨[tl one z [(j,st+1+0+0),(w1,st+1+1+0)],tl one I [(j,g0)],tl one I [(w1,g1)]],by kernel_rfl,rfl,?_,λe h=>?_⟩
 case' inr.inl.inr.inr=>
  obtain⟨j,w1,O,rfl⟩:=oW lw;refine⟨[tl one z [(j,st+1+0+0),(w1,st+1+1+0),(O,st+1+2+0)],tl one I [(j,g0)],tl one I [(w1,g1)],tl one I [(O,g2)]],by kernel_rfl,rfl,?_,λe h=>?_⟩
 case' inr.inr.inl=>
  obtain⟨j,rfl⟩:=len1 lw;refine⟨[tl one z [(j,st+1+0+0)],tl one I [(j,st+1+0+1)],tl one J [(j,g0)]],by kernel_rfl,rfl,?_,λe h=>?_⟩
 case' inr.inr.inr.inl=>
  obtain⟨j,w1,rfl⟩:=JT lw;refine⟨[tl one z [(j,st+1+0+0),(w1,st+1+2+0)],tl one I [(j,st+1+0+1)],tl one J [(j,g0)],tl one I [(w1,st+1+2+1)],tl one J [(w1,g1)]],by kernel_rfl,rfl,?_,λe h=>?_⟩
 case' inr.inr.inr.inr=>
  obtain⟨j,w1,O,rfl⟩:=oW lw;refine⟨[tl one z [(j,st+1+0+0),(w1,st+1+2+0),(O,st+1+4+0)],tl one I [(j,st+1+0+1)],tl one J [(j,g0)],tl one I [(w1,st+1+2+1)],tl one J [(w1,g1)],tl one I [(O,st+1+4+1)],tl one J [(O,g2)]],by kernel_rfl,rfl,?_,λe h=>?_⟩
 all_goals dsimp[kA,KC,VG,kT]
 all_goals first|(have:=Tj e h one z;omega)|(have:=@EQ e h one z one I (.inr d0);omega)|(have:=@zTn e h one z I J d0 d1 Z;omega)|(repeat first|show UG.nil|refine UG.tW (by assumption) (by assumption) (by assumption) ⟨rfl,rfl⟩ rs U ?_ ?_|refine UG.t1 (by assumption) (by assumption) (by assumption) (U _<|by repeat constructor) ?_ ?_|show QC _|refine TB.mpr ⟨?_,?_⟩|show .inr (.inl rfl)|show .inr (.inr<|.inl rfl)|show .inr (.inr<|.inr rfl)|show i2 02|show i3 02|show i4 02)
theorem Pt(c st g0 g1 g2 m:Int)(hm:m=2\/m=3\/m=4):
  ∃ds,qd [.int c,.int st,.int m,.lst [.int g0,.int g1,.int g2]]>.lst ds/\(ds.length:Int)=1+(1+GE c 9949 3)*(m-2+b2i (jP c m))/\TG m st g0 g1 g2 ds:=by
 have S:=yp c 9949 (m:=3) 02;have U:=yq c 9949 (m:=3) 02;obtain⟨one,os,h1,O,nd,J,run⟩:=Io c m hm;obtain⟨ws,lw,rs,z,wd⟩:=B4 c;have I:ws.length=1\/ws.length=2\/ws.length=3:=01
 rw[<- lw]
 cases j:jP c m with
 |false=>
  obtain⟨ds,e,l,g⟩:=zQU (c:=c) (st:=st) (g0:=g0) (g1:=g1) (g2:=g2) rs z h1 nd J O hm I
  show⟨ds,run _ _ _<|wd _ _ _ _ _ _<|X0 j e,by rw[l];simp[b2i],g⟩
 |true=>
  have m3:2<m:=by simp[jP]at j;show j.2
  obtain⟨ds,e,l,g⟩:=zTo (st:=st) (g0:=g0) (g1:=g1) (g2:=g2) rs z h1 nd J 01 I;show⟨ds,run _ _ _<|wd _ _ _ _ _ _<|P0 j e,by rw[l,show m-2+b2i true=(os.length:Int) by simp[b2i];omega],g⟩
def uL(c m:Int):Int:=1+(1+GE c 9949 3)*(m-2+b2i (jP c m))+b2i (decide<|0<GE c 9931 3)
theorem zWM(hm:m=2\/m=3\/m=4):R4 [.int c,.int m]>(.int<|uL c m):=by
 have h1:=yp c 9949 (m:=3) 02;have h2:=yq c 9949 (m:=3) 02;have h3 : -18446744073709551616<1+GE c 9949 3:=01
 have j:1+GE c 9949 3<18446744073709551616:=01
 exists 0,R4,Mx,Rz,tL,uL,b2i,h3,j,decide_eq_true_eq,NF,VH,WA
theorem zWN(c z j m:Int)(hm:m=2\/m=3\/m=4):∃d,yY [.int c,.int z,.int m,.int j]>d/\UG m (λn=>n=z\/n=j) [d]/\∀e h,VG e h [d]<=2:=by
 obtain⟨W,I,w1,Y,U,S,J,hs⟩:=W2<|c+1;have m0:0<m:=01
 have m1:0<m-1:=01
 have a0:=yp c 9871 m0;have a1:=yq c 9871 m0;have b0:=yp c 9859 m1;have b1:=yq c 9859 m1;generalize Z:GE c 9871 m=one at a0 a1;generalize hr:GE c 9859 (m-1)=r at b0 b1;obtain⟨O,n0⟩:=WO<|md hm a0 a1 b0 b1;have cp:c%2=0\/c%2=1:=01
 by_cases e:GE c 9931 3=1
 .refine⟨tl one ((one+1+r)%m) [(I,j)],?_,UG.tW ⟨a0,a1⟩ O n0 ⟨rfl,rfl⟩ (by simp) (TB.mpr ⟨S,QC _⟩) (TB.mpr ⟨.inr rfl,QC _⟩) UG.nil,λe h=>Sa rfl⟩
  exists 0,yY,qe,tL,m0,m1,Y,hs,Z,hr,e,beq_iff_eq,beq_self_eq_true,NF,VH,WA
  rfl
 .have ok:∀w∈[I,w1],eM w:=TB.mpr ⟨S,TB.mpr ⟨J,QC _⟩⟩;rcases cp with cp|cp
  case' inl=>refine⟨tl one ((one+1+r)%m) [(I,z),(w1,j)],?_,UG.tW ⟨a0,a1⟩ O n0 ⟨rfl,rfl⟩ U ok (TB.mpr ⟨.inl rfl,TB.mpr ⟨.inr rfl,QC _⟩⟩) UG.nil,λe h=>Sa rfl⟩
  case' inr=>refine⟨tl one ((one+1+r)%m) [(I,j),(w1,z)],?_,UG.tW ⟨a0,a1⟩ O n0 ⟨rfl,rfl⟩ U ok (TB.mpr ⟨.inr rfl,TB.mpr ⟨.inl rfl,QC _⟩⟩) UG.nil,λe h=>Sa rfl⟩
  all_goals
   exists 0,yY,qe,tL,m0,m1,Y,hs,Z,hr,beq_iff_eq,beq_self_eq_true,cp,(beq_eq_false_iff_ne.mpr e),NF,VH,WA
   rfl
theorem ZZ:VH 3 0>0:=rfl
theorem Tn{S:List Int}(z:∀x∈S,0<=x/\x<=T)(I:1<=S.length):∃g,NF (S.map D.int) (GE x 9907 (S.length:Int))>.int g/\0<=g/\g<=T:=by
 have j:(0:Int)<(S.length:Int):=01
 have a0:=yp x 9907 j;have a1:=yq x 9907 j;obtain⟨i,hi⟩:∃i:Nat,GE x 9907 (S.length:Int)=(i:Int):=⟨(GE x 9907 (S.length:Int)).toNat,01⟩
 rw[hi]at a1 ⊢;have EH:i<S.length:=01
 show⟨S[i],jT (by simp[EH]),z _<|AD _⟩
theorem Pf(hm:m=2\/m=3\/m=4)(h:(n:Int)=1+(1+GE c 9949 3)*(m-2+b2i (jP c m))):1<=(n:Int)/\(n:Int)<=10/\uL c m=(n:Int)+b2i (decide<|0<GE c 9931 3):=by
 have h1:=yp c 9949 (m:=3) 02;have h2:=yq c 9949 (m:=3) 02;refine⟨?_,?_,by rw[h];rfl⟩
 all_goals
  rw[h];have cs:=Th h1 h2;have bs:b2i (jP c m)=0\/b2i (jP c m)=1:=by unfold b2i;split<;>simp
  rcases hm with rfl|rfl|rfl<;>rcases cs with e|e|e<;>rcases bs with e' | e'<;>rw[e,e']<;>decide
theorem Pu(hm:m=2\/m=3\/m=4):1<=uL c m/\uL c m<=11:=by
 obtain⟨ds,_,l,_,_⟩:=Pt c 0 0 0 0 m hm;obtain⟨a,b,e⟩:=Pf hm l;have:b2i (decide<|0<GE c 9931 3)=0\/b2i (decide<|0<GE c 9931 3)=1:=by unfold b2i;split<;>simp
 omega
theorem Xi{T a L g0 g1 g2 n:Int}(a0:0<=a)(l:a+L<=T+1)(j:0<=g0/\g0<=T)(z:0<=g1/\g1<=T)(I:0<=g2/\g2<=T)(h:(a<n/\n<a+L)\/n=g0\/n=g1\/n=g2):0<=n/\n<T+1:=by
 rcases h with h|rfl|rfl|rfl
 .show⟨C7 a0<|Int.le_of_lt h.1,Int.lt_of_lt_of_le h.2 l⟩
 .show⟨j.1,sI j.2⟩
 .show⟨z.1,sI z.2⟩
 .show⟨I.1,sI I.2⟩
theorem zQV{m:Int}(hm:m=2\/m=3\/m=4){S:List Int}{T:Int}(j:∀x∈S,0<=x/\x<=T)(Y:1<=S.length){k:Nat}{a c:Int}(h1:S[k]?>a)(h2:S[k+1]?>a+uL c m){ds:List D}(hd:ds.length<=100)(s0 s2 s7 s8:Sl):
  ∃es WP pO,qg [s0,!.int m,s2,.l<|S.map D.int,!.int c,.l ds,!.int k,s7,s8]>.nx [s0,!.int m,s2,.l<|S.map D.int,!.int c,.l<|ds++es,!.int k,WP,pO] /\
   (es.length:Int)=uL c m/\UG m (λn=>0<=n/\n<T+1) es/\∀e h,VG e h es<=5:=by
 have hn:(0:Int)<(S.length:Int):=01
 have ha:=j a<|xA h1;have hb:=j _<|xA h2;obtain⟨g0,p0,u0⟩:=Tn (x:=c+0) j Y;obtain⟨g1,p1,u1⟩:=Tn (x:=c+7) j Y;obtain⟨g2,p2,u2⟩:=Tn (x:=c+14) j Y;have q1:NF (S.map D.int) (k:Int)>.int a:=jT (by simp[h1]);have q2:NF (S.map D.int) ((k:Int)+1)>(.int<|a+uL c m):=jT (i:=k+1) (by simp[h2]);by_cases t:0<GE c 9931 3
 .obtain⟨es,U,l1,O,J⟩:=Pt c a (a+uL c m-1) g1 g2 m hm;obtain⟨x,e2,G2,C2⟩:=zWN c (a+uL c m-1) g0 m hm;obtain⟨y0,y1,Z⟩:=Pf hm l1;rw[show b2i (decide<|0<GE c 9931 3)=1 by simp[b2i,t]]at Z;have z0:es.length<=10:=01
  have I:ds.length+es.length<=1000000:=vA (TL hd z0) 02;have z2:ds.length+es.length<16000000:=IE I 02;refine⟨es++[x],!.lst [.int<|a+uL c m-1,.int g1,.int g2],!.int g0,?_,by simp;omega,(O.mono λn h=>Xi ha.1 01 ⟨01,01⟩ u1 u2 h).app (G2.mono λn h=>by rcases h with rfl|rfl<;>omega),λe h=>?_⟩
  .exists 0,qg,tL,hn,p0,p1,p2,q1,q2,U,e2,t,I,z2,FI,ZZ,r3,kY,WB,WA
  .rw[An];show TL (J e h)<|C2 e h
 .obtain⟨es,U,l1,O,J⟩:=Pt c a g0 g1 g2 m hm;obtain⟨y0,y1,Z⟩:=Pf hm l1;rw[show b2i (decide<|0<GE c 9931 3)=0 by simp[b2i,t]]at Z;have z0:es.length<=10:=01
  have I:ds.length+es.length<=1000000:=vA (TL hd z0) 02;refine⟨es,!.lst [.int g0,.int g1,.int g2],!.int g0,?_,01,O.mono λn h=>Xi ha.1 01 u0 u1 u2 h,λe h=>vA (J e h)<|02⟩
  exists 0,qg,tL,hn,p0,p1,p2,q1,q2,U,t,I,FI,ZZ,r3,kY,WA
noncomputable def DD(m a:Int):List Int->List Int
 | []=>[a]
 |c::cs=>a::DD m (a+uL c m) cs
theorem zOK(m:Int):∀(cs:List Int)(a:Int),(DD m a cs).length=cs.length+1
 | [],_=>rfl
 |c::cs,a=>by rw[DD,kA,zOK m cs,kA]
theorem zRn(hm:m=2\/m=3\/m=4):∀(cs:List Int)(a x:Int),x∈DD m a cs->a<=x/\x<=a+11*(cs.length:Int)
 | [],a,x,h=>by simp[DD]at h;subst h;simp
 |c::cs,a,x,h=>by
  have sz:=Pu (c:=c) hm;rcases lA.mp h with rfl|h
  .dsimp[kA];omega
  .have:=zRn hm cs _ x h;dsimp[kA];omega
noncomputable def tot(m a:Int):List Int->Int
 | []=>a
 |c::cs=>tot m (a+uL c m) cs
theorem zRo(hm:m=2\/m=3\/m=4):∀(cs:List Int)(a:Int),a+cs.length<=tot m a cs/\tot m a cs<=a+11*(cs.length:Int)/\∀x∈DD m a cs,x<=tot m a cs
 | [],a=>by simp[tot,DD]
 |c::cs,a=>by
  have sz:=Pu (c:=c) hm;obtain⟨j,i2,i3⟩:=zRo hm cs<|a+uL c m;dsimp[tot,DD,kA];refine⟨01,01,λx hx=>?_⟩;rcases lA.mp hx with rfl|hx
  .omega
  .show i3 x hx
theorem zK6(hm:m=2\/m=3\/m=4):∀(cs pre:List Int)(a:Int)(s0 s2 s4 s5 s6 s7 s8:Sl),pre.length+cs.length<=100->∃j,zi (gN 4) qA (cs.map D.int) [s0,!.int m,s2,.l<|(pre++[a]).map D.int,s4,s5,s6,s7,s8]>.nx [s0,!.int m,s2,.l<|(pre++DD m a cs).map D.int,j,s5,s6,s7,s8]
 | [],pre,a,s0,s2,s4,s5,s6,s7,s8,_=>⟨s4,rfl⟩
 |c::cs,pre,a,s0,s2,s4,s5,s6,s7,s8,hl=>by
  rw[kA]at hl;obtain⟨j,ih⟩:=zK6 hm cs (pre++[a]) (a+uL c m) s0 s2 (!.int c) s5 s6 s7 s8 (by simp;omega);refine⟨j,?_⟩;have z:=zWM (c:=c) hm;have I:=zOI (pre.map D.int)<|D.int a;have J:pre.length+1<16000000:=01
  have st:qA [s0,!.int m,s2,.l<|(pre++[a]).map D.int,!.int c,s5,s6,s7,s8]>.nx [s0,!.int m,s2,.l<|(pre++[a]++[a+uL c m]).map D.int,!.int c,s5,s6,s7,s8]:=by
   exists 0,qA,UA,I,z,J,WA
  have go:zi (gN 4) qA (D.int c::cs.map D.int) [s0,!.int m,s2,.l<|(pre++[a]).map D.int,s4,s5,s6,s7,s8]=zi (gN 4) qA (cs.map D.int) [s0,!.int m,s2,.l<|(pre++[a]++[a+uL c m]).map D.int,!.int c,s5,s6,s7,s8]:=by
   rw[zi,show gN 4 (D.int c) [s0,!.int m,s2,.l<|(pre++[a]).map D.int,s4,s5,s6,s7,s8]>[s0,!.int m,s2,.l<|(pre++[a]).map D.int,!.int c,s5,s6,s7,s8] from rfl,dA,st];rfl
  rw[eA,go,ih,DD,WB];rfl
theorem zRp{m:Int}(hm:m=2\/m=3\/m=4){S:List Int}{T:Int}(J:∀x∈S,0<=x/\x<=T)(O:1<=S.length):∀(cs:List Int)(k:Nat)(a:Int)(ds:List D)(s0 s2 s4 s6 s7 s8:Sl),S.drop k=DD m a cs->(ds.length:Int)=a->ds.length+11*cs.length<=100->UG m (λn=>0<=n/\n<T+1) ds ->
  ∃j nL U z I,zi (gT 2<|UD (gN 6)<|UD (gN 4) vF) qg (rL k<|cs.map D.int) [s0,!.int m,s2,.l<|S.map D.int,s4,.l ds,s6,s7,s8]>.nx [s0,!.int m,s2,.l<|S.map D.int,nL,.l j,U,z,I] /\
   (j.length:Int)=tot m a cs/\UG m (λn=>0<=n/\n<T+1) j/\∀e h,VG e h j<=VG e h ds+5*cs.length
 | [],k,a,ds,s0,s2,s4,s6,s7,s8,_,hd,_,hG=>⟨ds,s4,s6,s7,s8,rfl,hd,hG,λ_ _=>rA _⟩
 |c::cs,k,a,ds,s0,s2,s4,s6,s7,s8,hk,hd,hb,hG=>by
  have sz:=Pu (c:=c) hm;rw[kA]at hb
  have h1:S[k]?>a:=by
   have:=congrArg (λl=>l[0]?) hk;simpa[DD] using this
  have h2:S[k+1]?>a+uL c m:=by
   have:=congrArg (λl=>l[1]?) hk;dsimp[List.getElem?_drop,DD,CB]at this;rw[this];cases cs<;>rfl
  have lI:S.drop (k+1)=DD m (a+uL c m) cs:=by
   rw[<- ZT,hk];rfl
  obtain⟨es,z,I,Y,e2,e3,Z⟩:=zQV hm J O h1 h2 (ds:=ds) 01 s0 s2 s7 s8;obtain⟨j,t4,t6,t7,t8,i1,i2,i3,i4⟩:=zRp hm J O cs (k+1) (a+uL c m) (ds++es) s0 s2 (!.int c) (!.int k) z I lI (by simp;omega) (by simp;omega)<|hG.app e3;refine⟨j,t4,t6,t7,t8,?_,i2,i3,λe h=>?_⟩
  .rw[eA,rL,zi,show gT 2 (UD (gN 6)<|UD (gN 4) vF) (.tup [.int k,.int c]) [s0,!.int m,s2,.l<|S.map D.int,s4,.l ds,s6,s7,s8]>[s0,!.int m,s2,.l<|S.map D.int,!.int c,.l ds,!.int k,s7,s8] from rfl,dA,Y];show i1
  .have a1:=i4 e h;have a2:=Z e h;rw[An]at a1;rw[kA];omega
theorem xg(ns:List Int)(ρ:lB)(j:ρ=[!.lst (ns.map D.int),s1,.un,.un,.un,.un,.un,.un,.un,.un]):∀(is:List Nat),zR (gN 9) (λ_=>some true) (λρ=>((zC (gV 0)<|zC (b2 (zM 1) (gR 9) qG) zN) ρ).bind zb) (is.map λ(i:Nat)=>D.int<|0+(i:Int)) ρ>(is.map λi=>ns.getD (1+i) 0).map D.int
 | []=>rfl
 |i::is=>by
  have ih:=xg ns ρ j is;subst j;have k:=A6 (ns:=ns) (k:=1+(0+(i:Int))) 01;rw[show(1+(0+(i:Int))).toNat=1+i by omega,jE]at k;rw[eA,zR,ih]
  exists k,NF,VH,WA,AE,CD,pF,gN,gT,UD,vF,zw,zi,EG
theorem zQW(ns:List Int):∃m ds,(2<=m/\m<=4)/\q8 [.lst<|ns.map D.int]>.tup [.int m,.tup<|ds++[.tup [.str "end"]]]/\1<=ds.length/\ds.length<=39/\UG m (λn=>0<=n/\n<(ds.length:Int)+1) ds/\∀e h,VG e h ds<=15:=by
 have xa:=yp (ns.getD 0 0) 9973 (m:=3) 02;have xb:=yq (ns.getD 0 0) 9973 (m:=3) 02;have xc:=yp (ns.getD 0 0) 9967 (m:=3) 02;have xd:=yq (ns.getD 0 0) 9967 (m:=3) 02;have k0:zb [.lst<|ns.map D.int,.int 0]>(.int<|ns.getD 0 0):=A6 02;have hm:2+GE (ns.getD 0 0) 9973 3=2\/2+GE (ns.getD 0 0) 9973 3=3\/2+GE (ns.getD 0 0) 9973 3=4:=by rcases Th xa xb with e|e|e<;>rw[e]<;>decide
 obtain⟨r,hr⟩:∃r:Nat,1+GE (ns.getD 0 0) 9967 3=(r:Int):=⟨(1+GE (ns.getD 0 0) 9967 3).toNat,01⟩
 have j:1<=r/\r<=3:=01
 generalize em:2+GE (ns.getD 0 0) 9973 3=m at hm;have cl:=xg (s1:=!.int m) ns _ rfl<|uA r;generalize I:((uA r).map λi=>ns.getD (1+i) 0)=cs at cl;have lc:cs.length=r:=by rw[<- I];simp
 obtain⟨t1,t2,t3⟩:=zRo hm cs 0;have ls:=zOK m cs 0;have Y:∀x∈DD m 0 cs,0<=x/\x<=tot m 0 cs:=λx hx=>⟨(zRn hm cs 0 x hx).1,t3 x hx⟩
 obtain⟨s4,l1⟩:=zK6 hm cs [] 0 (!.lst (ns.map D.int)) (!.lst (cs.map D.int)) .un .un .un .un .un (by simp;omega);obtain⟨ds,u4,u6,u7,u8,l2,d1,O,S⟩:=zRp hm Y 01 cs 0 0 [] (!.lst (ns.map D.int)) (!.lst (cs.map D.int)) s4 .un .un .un rfl rfl (by simp;omega) UG.nil;have Z:ds.length<=33:=01
 have z1:ds.length+1<=1000000:=vA (nH Z) 02;have z2:r<=1000000:=vA j.2 02;refine⟨m,ds,01,?_,01,01,O.mono λn h=>01,λe h=>by have:=S e h;dsimp[VG]at this;omega⟩;rw[lC,lC,eA,FC]at l1;have rl:(rng 0 r).length<=1000000:=by simp[rng];omega
 change(D9 [!.lst (ns.map D.int),.un,.un,.un,.un,.un,.un,.un,.un]).bind _=_;unfold D9;rw[zl (ρ':=[!.lst (ns.map D.int),!.int m,.un,.un,.un,.un,.un,.un,.un]) ?g1,zl (ρ':=[!.lst (ns.map D.int),!.int m,!.lst (cs.map D.int),.un,.un,.un,.un,.un,.un]) ?g2,zl (ρ':=[!.lst (ns.map D.int),!.int m,!.lst (cs.map D.int),.l [.int 0],.un,.un,.un,.un,.un]) rfl,zl<|(TR (ds:=cs.map D.int) rfl).trans l1,zl (ρ':=[!.lst (ns.map D.int),!.int m,!.lst (cs.map D.int),.l<|(DD m 0 cs).map D.int,s4,.l [],.un,.un,.un]) rfl,zl<|(TR (ds:=rL 0<|cs.map D.int) rfl).trans l2,U5 (d:=.tup [.int m,.tup<|ds++[.tup [.str "end"]]]) ?g3]
 .rfl
 case g1=>
  refine(ym (d:=.int m) ?_).trans rfl
  exists 0,k0,tL,em,NF,VH,WA
 case g2=>
  refine(ym (d:=.lst<|cs.map D.int) ?_).trans rfl
  have J:UJ (zC (b2 (zM 1) (λρ=>((zC (λρ=>((zC (gV 0)<|zC (zM 0) zN) ρ).bind zb)<|zC (zM 9967)<|zC (zM 3) zN) ρ).bind zP) qG) zN) [!.lst (ns.map D.int),!.int m,.un,.un,.un,.un,.un,.un,.un]>rng 0 r:=by
   refine FQ ?_ z2;rw[<- hr]
   exists 0,k0,tL,NF,VH,WA
  unfold zK;rw[J,dA,if_pos rl];show congrArg (gC D.lst) cl
 case g3=>
  exists 0,z1,NF,VH,WA
noncomputable abbrev Lq:List Str:=["place"]
def v9:aC:=(sq (nG (bB<|b2 (b2 (gR 0) (zM 0) WA) (λ_=>some<|D.str "end") AE) (wF<|λρ=>(zN ρ).map D.tup)<|λρ=>some<|Out.nx ρ)<|wF<|b2 (gR 0) (zM 3) WA)
def yd(ds:List D):Option D:=AI Lq v9 ds
structure yn(m:Int)(ps:List Pl):Prop where
 m0:2<=m
 m1:m<=4
 n0:1<=ps.length
 n1:ps.length<=40
 ok:∀p∈ps,mJ m (λn=>0<=n/\n<(ps.length:Int)) p
def uB(m:Int)(ps:List Pl):D:=.tup [.int m,.tup<|ps.map KB]
theorem zQX(ns:List Int):∃m ps,q8 [.lst<|ns.map D.int]>uB m ps/\yn m ps/\(∃rows,ps=rows++[.fin]/\1<=rows.length/\∀p∈rows,p≠.fin)/\∀e h,VG e h (ps.map KB)<=15:=by
 obtain⟨m,ds,hm,e,h1,h2,⟨ps,rfl,h3⟩,j⟩:=zQW ns;rw[iA]at h1 h2 h3;refine⟨m,ps++[.fin],by rw[e];simp[uB,KB],⟨hm.1,hm.2,by simp,by simp;omega,λp hp=>?_⟩,⟨ps,rfl,h1,λp hp=>(h3 p hp).2⟩,λe h=>by rw[UA,An];show j e h⟩;rw[IA,eB];rcases nA.mp hp with hp|hp
 .show(h3 p hp).1
 .simp at hp;subst hp;trivial
noncomputable def tH:Pl->List (Str×Int)
 |.fin=>[]
 |.tell _ _ ch=>ch
theorem V5:((fA "tell" : Str)==fA "end")=false:=by decide +kernel
theorem zI2(p:Pl):yd [KB p]>(.tup<|(tH p).map uE):=by
 cases p with
 |fin=>exists 0,yd,v9,KB,FI,tH,beq_self_eq_true,WA
 |tell a b ch=>exists 0,yd,v9,KB,FI,OY,tH,V5,WA
theorem Cn{ps:List Pl}{n:Int}(h0:0<=n)(h1:n<(ps.length:Int)):∃p,p∈ps/\ps[n.toNat]?>p/\NF (ps.map KB) n>KB p:=by
 have h2:n.toNat<ps.length:=01
 refine⟨ps[n.toNat],AD _,by simp[h2],?_⟩;simp[NF,VH,h0,h1,h2]
theorem mJ.next{P:Int->Prop}(h:mJ m P p){q:Str×Int}(hq:q∈tH p):P q.2:=by
 cases p with
 |fin=>simp[tH]at hq
 |tell a b ch=>show h.nx q hq
theorem mJ.few{P:Int->Prop}(h:mJ m P p):(tH p).length<=3:=by
 cases p with
 |fin=>simp[tH]
 |tell a b ch=>show h.l1
theorem yQ{α:Type}{g:D->lB->Option lB}{p:iF}{f:dC}{emb:α->D}(j:α->Bool)(out:α->D):
  ∀(xs:List α),(∀x∈xs,∃ρ1,g (emb x) ρ>ρ1/\p ρ1>j x/\(j x=true->f ρ1>out x))->zR g p f (xs.map emb) ρ>(xs.filter j).map out
 | [],_=>rfl
 |x::xs,h=>by
  have ih:=yQ j out xs λy hy=>h y<|bA _ hy
  obtain⟨ρ1,z,I,e3⟩:=h x gA;rw[eA,xD];change(g (emb x) ρ).bind _=_;rw[z,dA,I,dA]
  cases t:j x with
  |true=>rw[if_pos rfl,e3 t,dA,ih,if_pos rfl];rfl
  |false=>rw[if_neg cB,ih,if_neg cB]
theorem zTq{α:Type}(f:α->D)(xs:List α)(lo hi:Option Int):∃ys:List α,zw (xs.map f) lo hi=ys.map f/\ys.length<=xs.length/\∀y∈ys,y∈xs:=by
 refine⟨(xs.drop<|HT.QD (xs.map f).length 0 lo).take<|HT.QD (xs.map f).length (xs.map f).length hi-HT.QD (xs.map f).length 0 lo,?_,?_,λy hy=>List.mem_of_mem_drop<|iO hy⟩
 .unfold zw;dsimp[EW,DW]
 .show((tQ _ _).trans<|List.drop_sublist _ _).length_le
theorem zWO(p:Pl):CD (KB p) (.tup [.str "end"])=(match p with | .fin=>true|_=>false):=by
 cases p with
 |fin=>simp[KB,CD,pF]
 |tell a b ch=>simp[KB,CD,pF]
noncomputable abbrev Lr:List Str:=["place","dancer"]
def w9:aC:=(wF<|jS (b2 (b2 (gR 0) (zM 0) WA) (λ_=>some<|D.str "tell") AE)<|b2 (gV 1) (λρ=>((zC (b2 (gR 0) (zM 1) WA)<|zC (b2 (gR 0) (zM 2) WA) zN) ρ).map D.tup) QM)
def ye(ds:List D):Option D:=AI Lr w9 ds
def X4:iF:=(bB<|b2 (b1 (gR 5) cH) (zM 0) jR)
def DV:aC:=(sq (W6 6 5)<|sq (nG (Eg false 4<|gV 6) (λρ=>some<|Out.ct ρ)<|λρ=>some<|Out.nx ρ)<|sq (Bu 4 (gV 6)<|λ_=>some<|D.bl true)<|nG (ZX<|QQ<|λρ=>((zC (b2 (gR 3) (gR 6) WA)<|zC (gV 1) zN) ρ).bind ye) (X6 5<|zK 1 (iT<|λρ=>((zC (b2 (gR 3) (gR 6) WA) zN) ρ).bind yd) (gN 7) (λ_=>some true)<|b2 (gR 7) (zM 1) WA)<|λρ=>some<|Out.nx ρ)
noncomputable abbrev Pv:List Str:=["dance","dancer","some","places","come_to","waiting","number"]
def Pw:aC:=(sq (qF 3<|b2 (gR 0) (zM 1) WA)<|sq (Bt 4)<|sq (AJ 5<|QO (gR 2) aW)<|sq (zRT 300 X4 DV)<|wF<|b1 (λρ=>((Sq 4) ρ).map D.lst) tK)
def qi(ds:List D):Option D:=AI Pv Pw ds
def La:aC:=(wF<|λρ=>((zC (gV 2)<|zC (b2 (b2 (IK (gR 3) (λ_=>some none) (oI<|gV 4) VJ) (λρ=>((zC (gV 5) zN) ρ).map D.tup) qG) (IK (gR 3) (oI<|b2 (gR 4) (zM 1) qG) (λ_=>some none) VJ) qG) zN) ρ).map D.tup)
def zGa:aC:=(sq (nG (bB<|b2 (gR 6) (zM 4) AE) (qF 5<|λρ=>((zC (λ_=>some<|D.str "end") zN) ρ).map D.tup)<|λρ=>some<|Out.nx ρ) La)
def jf:aC:=(sq (nG (bB<|b2 (gR 6) (zM 3) AE) (qF 5<|b2 (IK (gR 5) (λ_=>some none) (oI<|zM 3) VJ) (λρ=>((zC (IK (b2 (gR 5) (zM 3) WA) (oI<|b1 (zM 1) ZV) (λ_=>some none) VJ) zN) ρ).map D.tup) qG)<|λρ=>some<|Out.nx ρ) zGa)
def jg:aC:=(sq (nG (bB<|b2 (gR 6) (zM 2) AE) (qF 5<|b2 (IK (gR 5) (λ_=>some none) (oI<|zM 3) VJ) (λρ=>((zC (b2 (IK (b2 (gR 5) (zM 3) WA) (λ_=>some none) (oI<|b1 (zM 1) ZV) VJ) (λρ=>((zC (λρ=>((zC (b2 (IK (gR 7) (λ_=>some none) (oI<|zM 2) VJ) (λ_=>some<|D.str "z") qG)<|zC (gV 8) zN) ρ).map D.tup) zN) ρ).map D.tup) qG) zN) ρ).map D.tup) qG)<|λρ=>some<|Out.nx ρ) jf)
def zGb:aC:=(sq (nG (bB<|b2 (gR 6) (zM 1) AE) (qF 5<|λρ=>((zC (λ_=>some<|D.str "tell")<|zC (b2 (gR 5) (zM 2) WA)<|zC (b2 (gR 5) (zM 1) WA)<|zC (b2 (gR 5) (zM 3) WA) zN) ρ).map D.tup)<|λρ=>some<|Out.nx ρ) jg)
def e9:aC:=(sq (nG (bB<|b2 (gR 6) (zM 0) AE) (qF 5<|b2 (IK (gR 5) (λ_=>some none) (oI<|zM 3) VJ) (λρ=>((zC (b2 (IK (b2 (gR 5) (zM 3) WA) (λ_=>some none) (oI<|b1 (zM 1) ZV) VJ) (λρ=>((zC (λρ=>((zC (gV 7)<|zC (λρ=>((zC (gV 1)<|zC (zM 9833)<|zC (b1 (gR 3) cH) zN) ρ).bind zP) zN) ρ).map D.tup) zN) ρ).map D.tup) qG) zN) ρ).map D.tup) qG)<|λρ=>some<|Out.nx ρ) zGb)
def i9:aC:=(sq (qF 6<|λρ=>((zC (gV 1)<|zC (zM 9839)<|zC (zM 5) zN) ρ).bind zP)<|sq (R6 (b2 (b2 (gR 5) (zM 3) WA) (b1 (zM 1) ZV) WA)<|gT 2<|UD (gN 7)<|UD (gN 8) vF) e9)
noncomputable abbrev Ls:List Str:=["_law_dance_here","_law_cell_here","_law_many","_law_places","_law_at","_law_place","_law_kind","_law_word_here","_law_after"]
def x9:aC:=(sq (R6 (gV 0)<|gT 2<|UD (gN 2)<|UD (gN 3) vF)<|sq (qF 4<|λρ=>((zC (gV 1)<|zC (zM 9857)<|zC (b1 (gR 3) cH) zN) ρ).bind zP)<|sq (qF 5<|b2 (gR 3) (gR 4) WA)<|sq (nG (bB<|b2 (gR 5) (λρ=>((zC (λ_=>some<|D.str "end") zN) ρ).map D.tup) AE) (qF 5<|λρ=>((zC (λ_=>some<|D.str "tell")<|zC (b2 (gR 1) (gR 2) jM)<|zC (b2 (b2 (gR 1) (zM 1) qG) (gR 2) jM)<|zC (λρ=>((zC (λρ=>((zC (λ_=>some<|D.str "z")<|zC (λρ=>((zC (gV 1)<|zC (zM 9851)<|zC (b1 (gR 3) cH) zN) ρ).bind zP) zN) ρ).map D.tup) zN) ρ).map D.tup) zN) ρ).map D.tup)<|λρ=>some<|Out.nx ρ) i9)
def qW(ds:List D):Option D:=AI Ls x9 ds
theorem zQZ(l:List D)(x:D):zw (l++[x]) none (some (-1))=l:=by
 have e:(-1+((l.length:Int)+1)).toNat=l.length:=01
 simp[zw,HT.QD,e]
theorem zQa(l:List D)(x:D):zw (l++[x]) (some (-1)) none=[x]:=by
 have e:(-1+((l.length:Int)+1)).toNat=l.length:=01
 simp[zw,HT.QD,e]
theorem zQb(l:List D)(k:Nat)(h:k<=l.length):zw l none (some (k:Int))=l.take k:=by
 have:¬ ((k:Int)<0):=01
 simp[zw,HT.QD,this,bU h]
theorem zQc(l:List D)(k:Nat)(h:k<=l.length):zw l (some (k:Int)) none=l.drop k:=by
 have:¬ ((k:Int)<0):=01
 dsimp[zw,HT.QD,this,if_false,rB,bU h];rw[List.take_of_length_le<|by simp]
theorem zOL{α:Type}{l:List α}(h:1<=l.length):∃lL x,l=lL++[x]:=by
 have j:l≠[]:=by intro e;subst e;simp at h
 show⟨l.dropLast,l.getLast j,(List.dropLast_concat_getLast j).symm⟩
theorem zWP(w:Str):Txt.slice w none (some 2)=⟨(w.cps.toList.take 2).toArray⟩:=by
 obtain⟨⟨l⟩⟩:=w
 match l with
 | []=>rfl
 |[a]=>
  have e:HC none (some 2) 1 1=[0]:=by decide +kernel
  simp[Txt.slice,uD,e]
 |a::b::l=>show xf (a::b::l) 2 (by simp)
noncomputable def wz(w:Str):Str:=⟨(w.cps.toList.take 2++[122]).toArray⟩
theorem KM:(fA "z")=⟨[122].toArray⟩:=by decide +kernel
theorem D4(h:eM w):eM (wz w):=by
 obtain⟨h1,h2,h3⟩:=h;obtain⟨⟨l⟩⟩:=w;dsimp[uD,sA]at h1 h2;simp only at h3;refine⟨by simp[wz,uD],by simp[wz,uD];omega,λx hx=>?_⟩;simp[wz]at hx;rcases hx with hx|rfl
 .show h3 x<|iO hx
 .decide
theorem okz:eM (fA "z"):=by
 rw[KM];show⟨02,02,λx hx=>by simp at hx;subst hx;decide⟩
theorem C4(h:eM w)(k:Lt v w):Lt v (wz w):=by
 obtain⟨h1,h2,h3⟩:=h;obtain⟨⟨l⟩⟩:=w;dsimp[uD,sA]at h1 h2;simp only at h3;by_cases e:(⟨⟨l⟩⟩:Str)=wz ⟨⟨l⟩⟩
 .rw[<- e];show k
 .refine k.trans<|Lt.total ?_ e;rw[Lt.def]
  match l with
  | []=>simp at h1
  | [a]=>simp[wz]
  | [a,b]=>simp[wz]
  |[a,b,c]=>
   have hc:=(h3 c<|by simp).2;dsimp[wz,KO,List.take_zero,fC,lC];intro q;dsimp[List.cons_lt_cons_iff,GC,false_or,true_and]at q;rcases q with q|q
   .omega
   .show absurd q.2<|eI _
  |a::b::c::d::l=>simp at h2
theorem yn.set{ps:List Pl}(h:yn m ps)(k:Nat)(p:Pl)(hp:mJ m (λn=>0<=n/\n<(ps.length:Int)) p):yn m (ps.set k p):=by
 refine⟨h.m0,h.m1,‹h.n0›,‹h.n1›,λq hq=>?_⟩;rw[CF];rcases List.mem_or_eq_of_mem_set hq with hq|rfl
 .show h.ok q hq
 .show hp
theorem zWQ(ps:List Pl)(k:Nat)(p:Pl)(h:k<ps.length):(ps.map KB).take k++([KB p]++(ps.map KB).drop (k+1))=(ps.set k p).map KB:=by
 rw[List.set_eq_take_append_cons_drop,if_pos h];simp
theorem zJ8(h:FN (l++[w]))(k:∀v,Lt v w->Lt v w'):FN (l++[w']):=by
 rw[FN,List.pairwise_append]at h ⊢;refine⟨h.1,by simp,λa ha b hb=>?_⟩;simp at hb;subst hb;show k a (h.2.2 a ha w<|by simp)
theorem O6{c:iF}{F F':aC}(h:c ρ>true)(k:F ρ=r):nG c F F' ρ=r:=by
 rw[<- k];dsimp[nG,h,dA,if_true]
theorem To{l r:List D}(h:l.length+r.length<=1000000):qG (.tup l) (.tup r)>(.tup<|l++r):=if_pos h
theorem LY{l r:Str}(h:l.length+r.length<=1000000):qG (.str l) (.str r)>(.str<|l++r):=if_pos h
theorem zWR{A:dC}(h:A ρ>a):((zC A zN) ρ).map D.tup>.tup [a]:=by dsimp[zC,h,dA,wA]
theorem Tp{A B:dC}(h:A ρ>a)(k:B ρ>b):((zC A<|zC B zN) ρ).map D.tup>.tup [a,b]:=by dsimp[zC,h,k,dA,wA]
theorem zWS{f:dC}{g:D->lB->Option lB}(h:f ρ>d)(k:g d ρ>ρ'):R6 f g ρ>.nx ρ':=by dsimp[R6,h,k,dA,wA]
theorem zWT{ps:List Pl}(h:yn m ps)(j:at'<ps.length)(p:Pl)(hd:KB p=d):
  La [s0,s1,!.int m,!.tup (ps.map KB),!.int at',.v d,s6,s7,s8]>(.rt<|uB m<|ps.set at' p):=by
 subst hd;have I:=h.n1;have l1:((ps.map KB).take at').length<=40:=by simp;omega
 have l2:((ps.map KB).drop<|at'+1).length<=40:=by simp;omega
 have e:=Tp (ρ:=[s0,s1,!.int m,!.tup (ps.map KB),!.int at',!KB p,s6,s7,s8]) (A:=λρ=>DT ρ 2) (a:=.int m) rfl (qK (op:=qG) (qK (op:=qG) (A:=IK (gR 3) (λ_=>some none) (oI<|gV 4) VJ) (B:=λρ=>((zC (gV 5) zN) ρ).map D.tup)
  (Eq.trans (by kernel_rfl)<|congrArg (λz=>some<|D.tup z)<|zQb (ps.map KB) at' (by simp;omega)) rfl (To (r:=[KB p]) (by dsimp[eB];omega)))
  (B:=IK (gR 3) (oI<|b2 (gR 4) (zM 1) qG) (λ_=>some none) VJ) (Eq.trans (by kernel_rfl)<|congrArg (λz=>some<|D.tup z)<|zQc (ps.map KB) (at'+1) (by simp;omega)) (To (by dsimp[IA,eB];omega)))
 rw[WB,zWQ ps at' p j]at e;show congrArg (gC Out.rt) e
theorem Sb{E:dC}(j:E [s0,s1,s2,s3,s4,!.tup [k,a,b,x],s6,s7,s8]>e):
  qF 5 (b2 (IK (gR 5) (λ_=>some none) (oI<|λ_=>some<|.int 3) VJ) (λρ=>((zC E zN) ρ).map .tup) qG) [s0,s1,s2,s3,s4,!.tup [k,a,b,x],s6,s7,s8]>.nx [s0,s1,s2,s3,s4,!.tup [k,a,b,e],s6,s7,s8]:=
 ym (qK (a:=.tup [k,a,b]) (by kernel_rfl) (zWR j)<|by kernel_rfl)
theorem zRq{l:List D}{B:dC}(j:l.length<=3)(h:B [s0,s1,s2,s3,s4,!.tup [k,a,b,.tup<|l++[x]],s6,s7,s8]>y):
  b2 (IK (b2 (gR 5) (zM 3) WA) (λ_=>some none) (oI<|b1 (zM 1) ZV) VJ) (λρ=>((zC B zN) ρ).map D.tup) qG [s0,s1,s2,s3,s4,!.tup [k,a,b,.tup<|l++[x]],s6,s7,s8]>(.tup<|l++[y]):=
 qK (a:=.tup l) (Eq.trans (by kernel_rfl)<|congrArg (λz=>some<|D.tup z)<|zQZ l x) (zWR h) (To (by dsimp[eB];omega))
theorem sk2(s0 s1 s2 s3 s4 s5 s7 s8:Sl):e9 [s0,s1,s2,s3,s4,s5,!.int 2,s7,s8]=jg [s0,s1,s2,s3,s4,s5,!.int 2,s7,s8]:=by kernel_rfl
theorem sk3(s0 s1 s2 s3 s4 s5 s7 s8:Sl):e9 [s0,s1,s2,s3,s4,s5,!.int 3,s7,s8]=jf [s0,s1,s2,s3,s4,s5,!.int 3,s7,s8]:=by kernel_rfl
theorem zOO{ps:List Pl}(h:yn m ps)(k:RM m (λn=>0<=n/\n<(ps.length:Int)) a b (lL++[(w,x)]))(at':Nat)(S:at'<ps.length):
  ∃p,mJ m (λn=>0<=n/\n<(ps.length:Int)) p/\i9 [!uB m ps,!.int c,!.int m,!.tup (ps.map KB),!.int at',.v<|KB<|.tell a b<|lL++[(w,x)],.un,.un,.un]>(.rt<|uB m<|ps.set at' p):=by
 have I:(0:Int)<(ps.length:Int):=01
 have Z:0<=GE c 9833 (ps.length:Int)/\GE c 9833 (ps.length:Int)<(ps.length:Int):=⟨yp _ _ I,yq _ _ I⟩
 have j:eM w:=k.wd (w,x) (by simp);have ki:∀q∈lL,q∈lL++[(w,x)]:=λq hq=>BB _ hq
 have l1:=k.l1;have rs:=k.rs;dsimp[IA,eB,UA,eA,FC]at l1 rs;have J:(lL.map uE).length<=3:=by simp;omega
 have U:w.length<=1000000:=by have:=j.2.1;omega
 have l2:(w.cps.toList.take 2).length<=2:=JO 2 _;have e3:∀y,(lL++[y]).map uE=lL.map uE++[uE y]:=λy=>by simp
 have hp:∀y,KB (.tell a b<|lL++[y])=.tup [.str "tell",.int a,.int b,.tup<|lL.map uE++[uE y]]:=λy=>by rw[<- e3];rfl
 have st:i9 [!uB m ps,!.int c,!.int m,!.tup (ps.map KB),!.int at',.v<|KB<|.tell a b<|lL++[(w,x)],.un,.un,.un]=e9 [!uB m ps,!.int c,!.int m,!.tup (ps.map KB),!.int at',!.tup [.str "tell",.int a,.int b,.tup<|lL.map uE++[.tup [.str w,.int x]]],!.int (GE c 9839 5),!.str w,!.int x]:=by
  rw[hp];refine(zl (ρ':=[!uB m ps,!.int c,!.int m,!.tup (ps.map KB),!.int at',!.tup [.str "tell",.int a,.int b,.tup<|lL.map uE++[uE (w,x)]],!.int (GE c 9839 5),.un,.un])<|ym<|tL 02<|02).trans (zl ?_);show zWS (qK (a:=.tup<|lL.map uE++[uE (w,x)]) (b:=.int (-1)) (by kernel_rfl) rfl<|zOI _ _) rfl
 rw[st];have rt:∀(i:Int)(p:Pl){d:D},KB p=d->La [!uB m ps,!.int c,!.int m,!.tup (ps.map KB),!.int at',.v d,!.int i,!.str w,!.int x]>(.rt<|uB m<|ps.set at' p):=λi p d hd=>zWT h S p hd
 have e0:=yp c 9839 (m:=5) 02;have e1:=yq c 9839 (m:=5) 02;have cs:GE c 9839 5=0\/GE c 9839 5=1\/GE c 9839 5=2\/GE c 9839 5=3\/GE c 9839 5=4:=01
 have Y:1<=lL.length+1:=01
 rcases cs with e|e|e|e|e<;>rw[e]
 .have hm:zP [.int c,.int 9833,.int ((ps.map KB).length:Int)]>(.int<|GE c 9833 ps.length):=by rw[iA];show tL 02 I
  refine⟨.tell a b<|lL++[(w,GE c 9833 (ps.length:Int))],⟨k.a0,k.a1,k.b0,k.b1,k.ne,by simp,‹l1›,‹rs›,λq hq=>?_,λq hq=>?_⟩,
   (zl<|O6 (by kernel_rfl)<|Sb<|zRq J<|Tp (a:=.str w) rfl<|Eq.trans (by kernel_rfl) hm).trans (Eq.trans (by kernel_rfl)<|rt 0 _<|hp _)⟩
  .rcases nA.mp hq with hq|hq
   .show k.wd q<|ki q hq
   .cases jA.mp hq;show j
  .rcases nA.mp hq with hq|hq
   .show k.nx q<|ki q hq
   .cases jA.mp hq;show Z
 .show⟨.tell b a<|lL++[(w,x)],⟨k.b0,k.b1,k.a0,k.a1,λe=>k.ne e.symm,k.l0,k.l1,k.rs,k.wd,k.nx⟩,Eq.trans (by kernel_rfl)<|rt 1 _<|congrArg (λl=>D.tup [.str "tell",.int b,.int a,.tup l])<|e3 (w,x)⟩
 .refine⟨.tell a b<|lL++[(wz w,x)],⟨k.a0,k.a1,k.b0,k.b1,k.ne,by simp,‹l1›,‹zJ8 rs (λv hv=>C4 j hv)›,λq hq=>?_,λq hq=>?_⟩,
   (sk2 ..).trans ((zl<|O6 (by kernel_rfl)<|Sb<|zRq J<|Tp (a:=.str<|wz w) ?_ rfl).trans<|Eq.trans (by kernel_rfl)<|rt 2 _<|hp _)⟩
  .rcases nA.mp hq with hq|hq
   .show k.wd q<|ki q hq
   .cases jA.mp hq;show D4 j
  .rcases nA.mp hq with hq|hq
   .show k.nx q<|ki q hq
   .cases jA.mp hq;show k.nx (w,x) (by simp)
  .show qK (a:=.str<|Txt.slice w none<|some 2) (b:=.str<|fA "z") (if_pos U) rfl (by
    rw[zWP,KM];show(LY (by rw[Pp,Pp];show vA (Nat.add_le_add_right l2 1)<|02)).trans (by rw[zOF];rfl))
 .show⟨.tell a b [(w,x)],⟨k.a0,k.a1,k.b0,k.b1,k.ne,by simp,by simp,by simp,λq hq=>k.wd q (by simp at hq;simp[hq]),λq hq=>k.nx q (by simp at hq;simp[hq])⟩,
   (sk3 ..).trans ((zl<|O6 (by kernel_rfl)<|Sb<|Eq.trans (by kernel_rfl)<|congrArg (λz=>some<|D.tup z)<|zQa (lL.map uE)<|.tup [.str w,.int x]).trans<|Eq.trans (by kernel_rfl)<|rt 3 _ rfl)⟩
 .show⟨.fin,trivial,Eq.trans (by kernel_rfl)<|rt 4 .fin rfl⟩
theorem zOP{ps:List Pl}(h:yn m ps)(c:Int):∃J,yn m J/\J.length=ps.length/\(∃k p,J=ps.set k p/\(tH p).length<=3)/\qW [uB m ps,.int c]>uB m J:=by
 have j:(0:Int)<(ps.length:Int):=by have:=h.n0;omega
 have a0:=yp c 9857 j;have a1:=yq c 9857 j;obtain⟨at',S⟩:∃at':Nat,GE c 9857 (ps.length:Int)=(at':Int):=⟨(GE c 9857 (ps.length:Int)).toNat,01⟩
 rw[S]at a0 a1;have hl:at'<ps.length:=01
 obtain⟨p,hp,e1,U⟩:=Cn a0 a1;have ok:=h.ok p hp;have m0:0<m:=by have:=h.m0;omega
 have fin:∀a b ch,RM m (λn=>0<=n/\n<(ps.length:Int)) a b ch->∃p,mJ m (λn=>0<=n/\n<(ps.length:Int)) p/\i9 [!uB m ps,!.int c,!.int m,!.tup (ps.map KB),!.int at',!KB (.tell a b ch),.un,.un,.un]>(.rt<|uB m<|ps.set at' p):=λa b ch k=>by
  obtain⟨lL,⟨w,x⟩,rfl⟩:=zOL k.l0;show zOO h k at' hl
 cases p with
 |fin=>
  have y0:=yp c 9851 j;have y1:=yq c 9851 j
  have q1:c%m≠(c+1)%m:=by
   have:=h.m0;have:=h.m1;have:m=2\/m=3\/m=4:=01
   rcases this with rfl|rfl|rfl<;>omega
  obtain⟨Z,z,I⟩:=fin (c%m) ((c+1)%m) [(fA "z",GE c 9851 (ps.length:Int))] ⟨PD _<|01,XC _ m0,PD _<|01,XC _ m0,q1,by simp,by simp,by simp,‹okz›,‹⟨y0,y1⟩›⟩;refine⟨_,h.set at' Z z,by simp,⟨_,_,rfl,z.few⟩,?_⟩;dsimp[uB,KB,eA,FC,uE]at I U ⊢
  exists qW,x9,tL,j,S,U,m0,beq_self_eq_true,I,WA,AE,CD,pF,zR,gN,gT,UD,vF,zi,EG
 |tell a b ch=>
  obtain⟨Z,z,I⟩:=fin a b ch ok;refine⟨_,h.set at' Z z,by simp,⟨_,_,rfl,z.few⟩,?_⟩
  have Y:AE (KB<|.tell a b ch) (.tup [.str "end"])>.bl false:=by
   have hd:mG (.tup [.str "end"])<=20:=02
   unfold AE;rw[if_pos<|01,zWO]
  dsimp[uB]at I ⊢
  exists qW,x9,tL,j,S,U,Y,I,WA,CD,pF,zR,gN,gT,UD,vF,zi,EG
noncomputable def tp(p:Pl)(d:Int):Bool:=match p with
 |.fin=>false
 |.tell a b _=>decide (d=a) || decide (d=b)
theorem zQd:((fA "end" : Str)==fA "tell")=false:=by decide +kernel
theorem in2(d a b:Int):QM (.int d) (.tup [.int a,.int b])>.bl (decide (d=a) || decide (d=b)):=by
 have j:(a==d)=decide (d=a):=by rw[bF];show decide_eq_decide.mpr ⟨λh=>h.symm,λh=>h.symm⟩
 have z:(b==d)=decide (d=b):=by rw[bF];show decide_eq_decide.mpr ⟨λh=>h.symm,λh=>h.symm⟩
 have I:CD (.int a) (.int d)=(a==d):=by unfold CD;rfl
 have J:CD (.int b) (.int d)=(b==d):=by unfold CD;rfl
 unfold QM;rw[if_pos<|by simp[mG]];change some (D.bl (CD (.int a) (.int d) || (CD (.int b) (.int d) || false)))=_;rw[I,J,j,z,FG]
theorem Px(p:Pl)(d:Int):ye [KB p,.int d]>(.bl<|tp p d):=by
 cases p with
 |fin=>exists 0,ye,w9,KB,FI,tp,zQd,WA
 |tell a b ch=>
  exists 0,ye,w9,KB,FI,sN,at2,tp,beq_self_eq_true,in2,WA
def SL(ps:List Pl)(d n:Int):List Int:=match ps[n.toNat]? with
 |some p=>if tp p d then [] else (tH p).map (·.2)
 |none=>[]
noncomputable def run(ps:List Pl)(d:Int):Nat->List Int->List Int->Option (List Int)
 |0,_,_=>none
 |k+1,found,ws=>match ws.getLast? with
  |none=>some found
  |some n=>if n∈found then run ps d k found ws.dropLast else run ps d k (found++[n]) (ws.dropLast++SL ps d n)
theorem zI3{c:iF}{F:aC}(h:c ρ>true)(e:F ρ>.nx ρ'\/F ρ>.ct ρ'):bP c F (k+1) ρ=bP c F k ρ':=by
 rcases e with e|e<;>dsimp[bP,h,dA,if_true,e]
theorem zMC{c:iF}{F:aC}(h:c ρ>false):bP c F (k+1) ρ>.nx ρ:=by
 simp[bP,h]
theorem C5{α:Type}{ws:List α}{n:α}(h:ws.getLast?>n):ws=ws.dropLast++[n]/\0<ws.length:=by
 obtain⟨ys,rfl⟩:=List.getLast?_eq_some_iff.mp h;simp
noncomputable def tk(found:List Int):List (kC×D):=found.map λn=>(DC n,D.bl true)
theorem Sd(n:Int):∀(found:List Int),(VM (tk found)<|.inl n).isSome=decide (n∈found)
 | []=>rfl
 |x::found=>by
  have ih:=Sd n found;unfold VM tk at ih|-;dsimp[eA,iB];by_cases e:x=n
  .subst e;simp
  .have e':¬ (DC x:kC)=DC n:=λz=>e ‹z›
   have j:¬ n=x:=λz=>e z.symm
   dsimp[e',decide_false,lA,j,false_or];show ih
theorem zRr(h:n∉found):ZM (tk found) (.inl n) (.bl true)=tk (found++[n]):=by
 unfold ZM;rw[if_neg]
 .simp[tk]
 .simp[tk];show h
def TH(ps:List Pl)(ws:List Int):Prop:=∀n∈ws,0<=n/\n<(ps.length:Int)
theorem Qm(h:yn m ps)(d n:Int):TH ps (SL ps d n)/\(SL ps d n).length<=3:=by
 unfold SL;split
 .rename_i p e;have ok:=h.ok p<|xA e;split
  .show⟨λ_ h=>by simp at h,by simp⟩
  .refine⟨λx hx=>?_,‹ok.few›⟩;obtain⟨q,hq,rfl⟩:=LA.mp hx;show ok.next hq
 .show⟨λ_ h=>by simp at h,by simp⟩
theorem zQe(ρ:lB)(j:ρ.length=7)(ch:List (Str×Int)):zR (gN 7) (λ_=>some true) (b2 (gR 7) (zM 1) WA) (ch.map uE) (ρ++[.un])>(ch.map (·.2)).map D.int:=by
 have:=yQ (g:=gN 7) (p:=λ_=>some true) (f:=b2 (gR 7) (zM 1) WA) (emb:=uE) (ρ:=ρ++[.un]) (λ_=>true) (λq=>D.int q.2) ch λq _=>by
  refine⟨_,rfl,rfl,λ_=>?_⟩;have e:((ρ++[Sl.un]).set 7<|!uE q)[7]?>(!uE q):=ZA (by simp[j]);dsimp[uE]at e ⊢
  exists 0,sN,e,WA
 rw[this,wD.mpr (by simp),JA];rfl
theorem zMD{m:Int}{ps:List Pl}(h:yn m ps){d:Int}{found ws:List Int}{n:Int}(hf:found.length<=1000)(hw:ws.length<=1000)(Y:ws.getLast?>n)(Z:0<=n/\n<(ps.length:Int)):
  (DV [s0,!.int d,s2,!.tup (ps.map KB),.m<|tk found,.l<|ws.map D.int,s6]>.nx [s0,!.int d,s2,!.tup (ps.map KB),.m<|tk<|if n∈found then found else found++[n],.l<|(if n∈found then ws.dropLast else ws.dropLast++SL ps d n).map D.int,!.int n] \/
  DV [s0,!.int d,s2,!.tup (ps.map KB),.m<|tk found,.l<|ws.map D.int,s6]>.ct [s0,!.int d,s2,!.tup (ps.map KB),.m<|tk<|if n∈found then found else found++[n],.l<|(if n∈found then ws.dropLast else ws.dropLast++SL ps d n).map D.int,!.int n]):=by
 obtain⟨p,hp,S,U⟩:=Cn Z.1 Z.2;have ok:=h.ok p hp;obtain⟨ew,HP⟩:=C5 Y
 have g1:(ws.map D.int)[ws.length-1]?>.int n:=by
  rw[CA,<- List.getLast?_eq_getElem?,Y];rfl
 have j:=Sd n found;have tl:(tk found).length<1000000:=by simp[tk];omega
 have hd:(ws.map D.int).dropLast=ws.dropLast.map D.int:=by rw[vJ]
 have few:=ok.few;have J:(tH p).length<=1000000:=01
 have O:ws.length-1+(tH p).length<=1000000:=01
 by_cases hm:n∈found
 .right
  rw[decide_eq_true hm]at j;dsimp[hm,if_true]
  exists 0,DV,W6,g1,uK,j,hd,WA
 .left
  rw[decide_eq_false hm]at j;have pt:=zRr hm;dsimp[hm,if_false]
  cases z:tp p d with
  |true=>
   have I:SL ps d n=[]:=by simp[SL,S,z]
   exists 0,DV,W6,g1,uK,j,tl,pt,hd,U,Px,z,I,WA
  |false=>
   have I:SL ps d n=(tH p).map (·.2):=by simp[SL,S,z]
   have cs:=zQe [s0,!.int d,s2,!.tup (ps.map KB),.m<|tk<|found++[n],.l<|ws.dropLast.map D.int,!.int n] rfl<|tH p;unfold DV;generalize (b2 (gR 7) (zM 1) WA)=el at cs|-;dsimp[fC,lC]at cs
   exists W6,g1,uK,j,tl,pt,hd,U,Px,z,I,X6,zI2,J,cs,uF,O,UA,WA,AE,CD,pF,gN,gT,UD,vF,zw,zi,EG
noncomputable def fX(n:Nat)(found:List Int):Nat:=(uA n).countP λ(i:Nat)=>not<|decide ((i:Int)∈found)
theorem wn{α:Type}{p q:α->Bool}:∀{l:List α}{x:α},(∀y∈l,q y=true->p y=true)->x∈l->p x=true->q x=false->l.countP q+1<=l.countP p
 | [],x,_,hx,_,_=>by simp at hx
 |y::l,x,h,hx,h1,h2=>by
  rw[UQ,UQ];have mono:l.countP q<=l.countP p:=List.countP_mono_left λz hz hq=>h z (bA _ hz) hq
  rcases lA.mp hx with rfl|hx
  .rw[h1,h2];simp;show mono
  .have ih:=wn (l:=l) (λz hz=>h z<|bA _ hz) hx h1 h2;have hy:=h y gA
   cases e:q y with
   |true=>rw[hy e];simp;omega
   |false=>simp;split<;>omega
theorem zQf{n:Nat}{found:List Int}{k:Int}(h0:0<=k)(h1:k<(n:Int))(h:k∉found):fX n (found++[k])+1<=fX n found:=by
 refine wn (x:=k.toNat) (λy _ hy=>?_) (by simp;omega) ?_ ?_
 .simp at hy|-;show hy.1
 .have:((k.toNat:Nat):Int)=k:=01
  simp[this,h]
 .have:((k.toNat:Nat):Int)=k:=01
  simp[this]
theorem zWU(n:Nat)(found:List Int):fX n found<=n:=by
 have:=List.countP_le_length (l:=uA n) (p:=λ(i:Nat)=>not<|decide ((i:Int)∈found));simpa[fX] using this
theorem JY{ws:List Int}:X4 [s0,s1,s2,s3,s4,.l<|ws.map D.int,s6]>(decide<|0<ws.length):=by
 exists 0,X4,WA
 congr 1
 show decide_eq_decide.mpr 01
theorem vj{ws:List Int}(h:ws.getLast?=none):ws=[]:=by
 cases ws with
 |nil=>rfl
 |cons a l=>simp[List.getLast?_cons]at h
theorem Tq{m:Int}{ps:List Pl}(h:yn m ps)(d:Int):∀(k:Nat)(found ws:List Int),TH ps ws->found.length+fX ps.length found<=40->4*fX ps.length found+ws.length<k->k<=1000->∃f,run ps d k found ws>f/\f.length<=40 /\
  (∀s0 s2 s6,∃j,bP X4 DV k [s0,!.int d,s2,!.tup (ps.map KB),.m<|tk found,.l<|ws.map D.int,s6]>.nx [s0,!.int d,s2,!.tup (ps.map KB),.m<|tk f,.l [],j])
 |0,_,_,_,_,hk,_=>01
 |k+1,found,ws,hi,hf,hk,MZ=>by
  unfold run
  cases e:ws.getLast? with
  |none=>
   have:=vj e;subst this
   show⟨found,rfl,01,λs0 s2 s6=>⟨s6,zMC JY⟩⟩
  |some n=>
   obtain⟨J,hp⟩:=C5 e;have z:=hi n (by rw[J];simp);have I:TH ps ws.dropLast:=λx hx=>hi x<|(NN _).subset hx
   have tA:=λ(s0 s2 s6:Sl)=>zMD h (d:=d) (s0:=s0) (s2:=s2) (s6:=s6) (found:=found) 01 01 e z
   have go:∀s0 s1 s2 s3 s4 s6,X4 [s0,s1,s2,s3,s4,.l<|ws.map D.int,s6]>true:=λ_ _ _ _ _ _=>by rw[JY];simp[hp]
   simp only;by_cases hm:n∈found
   .dsimp[hm,if_true]at tA ⊢;obtain⟨f,r1,r2,r3⟩:=Tq h d k found ws.dropLast I hf (by rw[uF];omega) 01;refine⟨f,r1,r2,λs0 s2 s6=>?_⟩;obtain⟨j,e'⟩:=r3 s0 s2<|!.int n;show⟨j,by rw[zI3 (go _ _ _ _ _ _)<|tA s0 s2 s6,e']⟩
   .dsimp[hm,if_false]at tA ⊢;have u:=zQf (n:=ps.length) z.1 z.2 hm;obtain⟨O,S⟩:=Qm h d n
    obtain⟨f,r1,r2,r3⟩:=Tq h d k (found++[n]) (ws.dropLast++SL ps d n) (λx hx=>by
     rcases nA.mp hx with hx|hx
     .show I x hx
     .show O x hx) (by simp;omega) (by rw[IA,uF];omega) 01
    refine⟨f,r1,r2,λs0 s2 s6=>?_⟩;obtain⟨j,e'⟩:=r3 s0 s2<|!.int n;show⟨j,by rw[zI3 (go _ _ _ _ _ _)<|tA s0 s2 s6,e']⟩
theorem zQg(l:List Int):RD.UX (l.map D.int)>l:=by
 induction l with
 |nil=>rfl
 |cons x xs ih=>simp[RD.UX,ih]
theorem zOR{l:List Int}(h:l.length<64):JQ (.lst<|l.map D.int)>(sL l).map D.int:=by
 dsimp[JQ,aW,dA,iA,h,if_true,zQg]
theorem zTu(f:List Int):Cj (tk f)=f.map D.int:=by simp[Cj,tk,gP]
theorem Ao(h:yn m ps)(d:Int)(some':List Int)(hs:TH ps some')(J:some'.length<=100):∃f,run ps d 300 [] some'>f/\f.length<=40/\qi [uB m ps,.int d,.tup<|some'.map D.int]>(.tup<|(sL f).map D.int):=by
 have S:=zWU ps.length [];have O:=h.n1;obtain⟨f,r1,r2,r3⟩:=Tq h d 300 [] some' hs (by simp;omega) 01 01;refine⟨f,r1,r2,?_⟩;obtain⟨I,e⟩:=r3 (!uB m ps) (!.tup (some'.map D.int)) .un;have z:WA (uB m ps) (.int 1)>(.tup<|ps.map KB):=by dsimp[uB,WA,sN]
 have j:tk []=[]:=rfl;rw[j]at e
 exists 0,qi,Pw,z,e,Sq,zTu,zOR (show f.length<64 by omega)
noncomputable abbrev Ni:List Str:=["place","dancer"]
def Aa:aC:=(wF<|Zw (b2 (b2 (gR 0) (zM 0) WA) (λ_=>some<|D.str "end") AE)<|λρ=>((zC (gV 0)<|zC (gV 1) zN) ρ).bind ye)
def kX(ds:List D):Option D:=AI Ni Aa ds
def Kw:dC:=(b2 (b2 (gR 0) (zM 1) WA) (gR 4) WA)
def Kd:iF:=(QQ<|λρ=>((zC (gV 4)<|zC (gV 1) zN) ρ).bind kX)
def Ke:dC:=(gV 4)
noncomputable abbrev Lj:List Str:=["dance","dancer","some","places"]
def Lk:aC:=(sq (qF 3 λρ=>((zK 1 (iT<|gV 2) (gN 4) (λ_=>some true) Kw) ρ).map D.lst)<|wF<|λρ=>((zK 1 (iL<|gV 3) (gN 4) Kd Ke) ρ).map D.lst)
def yR(ds:List D):Option D:=AI Lj Lk ds
def Lu:dC:=(b2 (gR 2) (zM 0) WA)
noncomputable abbrev My:List Str:=["turn","dancer"]
def P9:aC:=(sq (nG (bB<|b2 (b2 (gR 0) (zM 0) WA) (λ_=>some<|D.str "end") AE) (wF<|λρ=>((zC (λ_=>some<|D.str "end") zN) ρ).map D.tup)<|λρ=>some<|Out.nx ρ)<|sq (nG (bB<|b2 (b2 (gR 0) (zM 1) WA) (gR 1) AE) (wF<|λρ=>((zC (λ_=>some<|D.str "tells")<|zC (b2 (gR 0) (zM 2) WA)<|zC (b1 (λρ=>((zK 1 (iT<|b2 (gR 0) (zM 3) WA) (gN 2) (λ_=>some true) Lu) ρ).map D.lst) tK) zN) ρ).map D.tup)<|λρ=>some<|Out.nx ρ)<|wF<|λρ=>((zC (λ_=>some<|D.str "hears")<|zC (b2 (gR 0) (zM 1) WA) zN) ρ).map D.tup)
def CV(ds:List D):Option D:=AI My P9 ds
def qL:dC:=(b2 (λρ=>((zC (gV 3)<|zC (gV 1) zN) ρ).bind CV) (gR 2) AE)
noncomputable abbrev Lb:List Str:=["turns","dancer","asked"]
def j9:lB->Option fG:=(jH (oX<|nG (bB<|b2 (b1 (gR 0) cH) (zM 0) AE) (wF<|λρ=>((zC (λ_=>some<|D.str "rests") zN) ρ).map D.tup)<|λρ=>some<|Out.nx ρ)<|jH (oX<|qF 2<|λρ=>((zC (b2 (gR 0) (zM 0) WA)<|zC (gV 1) zN) ρ).bind CV)<|jH (FT (ZX<|QQ<|b1 (λρ=>((zK 1 (iL<|gV 0) (gN 3) (λ_=>some true) qL) ρ).map D.lst) MY) (cT 0<|zC (b1 (gR 1)<|BS "dancer " " can't know which of unlike turns it is at") zN)<|oX λρ=>some<|Out.nx ρ)<|oX<|wF<|gV 2)
def yH(ds:List D):Option (Except Nat D):=cW Lb j9 ds
def yZ:aC:=(Bk 1 (gV 3)<|gV 4)
def qB:aC:=(zn (iT<|λρ=>((zC (gV 2) zN) ρ).bind yd) (gT 2<|UD (gN 3)<|UD (gN 4) vF) yZ)
noncomputable abbrev Kf:List Str:=["turns","nexts","turn","word","number"]
def Kg:aC:=(sq (Rt 1)<|sq (zn (iL<|gV 0) (gN 2) qB)<|By 1)
def yx(ds:List D):Option Sl:=bY Kf Kg ds
def gX:aC:=(nG (bB<|b2 (b1 (λρ=>((zC (gV 0)<|zC (gV 1)<|zC (λρ=>((zC (gV 0)<|zC (gV 1)<|zC (λρ=>((zC (gV 3) zN) ρ).map D.tup) zN) ρ).bind qi) zN) ρ).bind yR) cH) (zM 0) AE) (Bu 2 (gV 3)<|λ_=>some<|D.bl true)<|λρ=>some<|Out.nx ρ)
noncomputable abbrev Nj:List Str:=["dance","dancer","found","number"]
def Y4:aC:=(sq (Bt 2)<|sq (zn (UJ<|zC (b1 (b2 (gR 0) (zM 1) WA) cH) zN) (gN 3) gX)<|By 2)
def VS(ds:List D):Option Sl:=bY Nj Y4 ds
def z7:dC:=(AV 3<|gV 4)
noncomputable abbrev ya:List Str:=["dancer","some","turns","vain"]
def zr:lB->Option fG:=(FT (PY (bB<|b2 (b1 (gR 2) cH) (zM 0) jR)<|QQ<|b1 (λρ=>((zK 1 (iT<|gV 1) (gN 4) (λ_=>some true) z7) ρ).map D.lst) NY) (cT 0<|zC (b1 (gR 0)<|BS "dancer " " may wait in vain for its turn") zN)<|oX λρ=>some<|Out.nx ρ)
def zt(ds:List D)(x:Ob):Option (Except Nat D):=BO λa=>L6 ya zr a ds x
def E9:aC:=(sq (qF 12<|λρ=>((zC (gV 0)<|zC (gV 1)<|zC (b1 (Tb 9<|gV 11) tK) zN) ρ).bind qi)<|sq (nG (U6 4<|gV 12) (sq (Bz 4 (gV 12)<|b1 (gR 3) cH)<|AO 3<|gV 12)<|λρ=>some<|Out.nx ρ)<|AO 10<|λρ=>((zC (gV 11)<|zC (sV 4<|gV 12) zN) ρ).map D.tup)
def qP:iF:=(bB<|b2 (b1 (gR 5) cH) (b1 (gR 3) cH) Ie)
def yT:lB->Option fG:=(jH (oX<|qF 6<|b2 (gR 3) (b1 (gR 5) cH) WA)<|jH (oX<|qF 7<|λρ=>((zC (gV 0)<|zC (gV 1)<|zC (gV 6) zN) ρ).bind yR)<|jH (Ro<|Td 2 (lU (gV 1)<|lU (gV 6)<|lU (gV 7) zN) zt)<|jH (Bv 8<|λρ=>((zC (gV 7)<|zC (gV 1) zN) ρ).bind yH)<|oX<|sq (eQ 9 (zC (gV 7) zN) yx)<|sq (AJ 10 zN)<|sq (zn (iL<|λρ=>((Ru 9) ρ).map D.lst) (gN 11) E9)<|AO 5<|BV (bB<|b2 (b2 (gR 8) (zM 0) WA) (λρ=>((zC (λ_=>some<|D.str "tells")<|zC (λ_=>some<|D.str "hears") zN) ρ).map D.tup) QM) (λρ=>((zC (b2 (gR 8) (zM 0) WA)<|zC (b2 (gR 8) (zM 1) WA)<|zC (b1 (gR 10) tK) zN) ρ).map D.tup)<|gV 8)
noncomputable abbrev Nk:List Str:=["dance","dancer","vain","known","numbers","part","some","turns","asked","nexts","pairs","word","come_to"]
def Nl:lB->Option fG:=(jH (oX<|eQ 2 (zC (gV 0)<|zC (gV 1) zN) VS)<|jH (oX<|AJ 3<|zC (λρ=>((zC (gV 0)<|zC (gV 1)<|zC (λρ=>((zC (zM 0) zN) ρ).map D.tup) zN) ρ).bind qi) zN)<|jH (oX<|JX 4 (b2 (gR 3) (zM 0) WA)<|zM 0)<|jH (oX<|AJ 5 zN)<|jH (R5 20000000 qP yT)<|oX<|wF<|b1 (gR 5) tK)
def za(ds:List D):Option (Except Nat D):=cW Nk Nl ds
def MP(p:Pl)(d:Int):Bool:=match p with
 |.fin=>true
 |p=>tp p d
theorem zWV(p:Pl)(d:Int):kX [KB p,.int d]>(.bl<|MP p d):=by
 have e:=Px p d
 cases p with
 |fin=>exists 0,kX,Aa,KB,FI,MP,beq_self_eq_true,WA
 |tell a b ch=>
  have j:WA (KB<|.tell a b ch) (.int 0)>.str "tell":=by dsimp[KB,WA,FI]
  exists 0,kX,Aa,j,MP,V5,e
noncomputable def LQ(ps:List Pl)(S:List Int):List Pl:=S.filterMap λn=>ps[n.toNat]?
def turns(ps:List Pl)(d:Int)(S:List Int):List Pl:=(LQ ps S).filter λp=>MP p d
theorem zI4(ps:List Pl)(S:List Int):(LQ ps S).length<=S.length:=List.length_filterMap_le ..
theorem zK7(h0:s0=!(uB m ps)):∀(S:List Int),TH ps S->zR (gN 4) (λ_=>some true) Kw (S.map D.int) [s0,s1,s2,s3,.un]>(LQ ps S).map KB
 | [],_=>rfl
 |n::S,hi=>by
  subst h0;have j:=hi n gA;obtain⟨p,hp,I,J⟩:=Cn j.1 j.2;have ih:=zK7 (s1:=s1) (s2:=s2) (s3:=s3) (m:=m) rfl S λx hx=>hi x<|bA _ hx
  have z:WA (uB m ps) (.int 1)>(.tup<|ps.map KB):=by dsimp[uB,WA,sN]
  have O:WA (.tup<|ps.map KB) (.int n)>KB p:=J;have U:LQ ps (n::S)=p::LQ ps S:=by simp[LQ,I]
  rw[U,eA,eA];unfold zR;rw[ih]
  exists Kw,z,O,AE,CD,pF,gN,gT,UD,vF,zw,zi,EG
theorem zME(h1:s1=!(.int d))(qs:List Pl):zR (gN 4) Kd Ke (qs.map KB) [s0,s1,s2,s3,.un]>(qs.filter λp=>MP p d).map KB:=by
 subst h1;refine yQ (λp=>MP p d) KB qs λp _=>⟨_,rfl,?_,λ_=>?_⟩
 .have:=zWV p d
  exists 0,Kd,this,WA
 .exists 0,Ke,WA
theorem zOS(d:Int){S:List Int}(hi:TH ps S)(j:S.length<=1000):yR [uB m ps,.int d,.tup<|S.map D.int]>(.lst<|(turns ps d S).map KB):=by
 have h1:=zK7 (s0:=!uB m ps) (s1:=!.int d) (s2:=!.tup (S.map D.int)) (s3:=.un) (m:=m) rfl S hi;have h2:=zME (s0:=!uB m ps) (s1:=!.int d) (s2:=!.tup (S.map D.int)) (s3:=!.lst ((LQ ps S).map KB)) (d:=d) rfl<|LQ ps S;have l1:S.length<=1000000:=01
 have l2:(LQ ps S).length<=1000000:=by have:=zI4 ps S;omega
 unfold yR Lk
 exists h1,h2,l1,l2,turns,WA,AE,CD,pF,gT,UD,vF,zw,zi,EG
noncomputable def MT(p:Pl)(d:Int):D:=match p with
 |.fin=>.tup [.str "end"]
 |.tell a b ch=>if a=d then .tup [.str "tells",.int b,.tup<|ch.map λq=>.str q.1] else .tup [.str "hears",.int a]
theorem zQh{f:dC}(ρ:lB)(ch:List (Str×Int))(i:Nat)(hf:∀q:Str×Int,f ((ρ++[Sl.un]).set i<|!uE q)>.str q.1):zR (gN i) (λ_=>some true) f (ch.map uE) (ρ++[Sl.un])>(ch.map λq=>D.str q.1):=by
 have:=yQ (g:=gN i) (p:=λ_=>some true) (f:=f) (emb:=uE) (ρ:=ρ++[Sl.un]) (λ_=>true) (λq=>D.str q.1) ch λq _=>⟨_,rfl,rfl,λ_=>hf q⟩
 rw[this,wD.mpr<|by simp]
theorem zOT(p:Pl)(d:Int)(Y:(tH p).length<=3):CV [KB p,.int d]>MT p d:=by
 cases p with
 |fin=>exists 0,CV,P9,KB,FI,MT,beq_self_eq_true,WA
 |tell a b ch=>
  have J:WA (KB<|.tell a b ch) (.int 0)>.str "tell":=by dsimp[KB,WA,FI]
  have O:WA (KB<|.tell a b ch) (.int 1)>.int a:=by dsimp[KB,WA,sN]
  have S:WA (KB<|.tell a b ch) (.int 2)>.int b:=by dsimp[KB,WA,at2]
  have U:WA (KB<|.tell a b ch) (.int 3)>(.tup<|ch.map uE):=by dsimp[KB,WA,OY]
  have j:AE (.int a) (.int d)>(.bl<|decide<|a=d):=by
   unfold AE;rw[if_pos<|by simp[mG]];unfold CD;rw[bF]
  have es:AE (.str "tell") (.str "end")>.bl false:=by
   unfold AE;rw[if_pos<|by simp[mG]];unfold CD;rw[V5]
  have l1:ch.length<=1000000:=by dsimp[tH]at Y;omega
  have I:=zQh (f:=Lu) [!KB (.tell a b ch),!.int d] ch 2 λq=>by
   exists 0,Lu,uE,FI,WA
  unfold CV P9;dsimp[fC,lC]at I;by_cases h:a=d
  .rw[decide_eq_true h]at j;have z:MT (.tell a b ch) d=.tup [.str "tells",.int b,.tup<|ch.map λq=>.str q.1]:=by simp[MT,h]
   rw[z]
   exists J,O,S,U,j,es,I,l1,CD,pF,gT,UD,vF,zw,zi,EG
  .rw[decide_eq_false h]at j;have z:MT (.tell a b ch) d=.tup [.str "hears",.int a]:=by simp[MT,h]
   rw[z]
   exists J,O,S,U,j,es,I,l1,CD,pF,gT,UD,vF,zw,zi,EG
inductive Ask where
 |fin|tells (b:Int) (ws:List Str)|hears (a:Int)
deriving DecidableEq
noncomputable def ask(p:Pl)(d:Int):Ask:=match p with
 |.fin=>.fin
 |.tell a b ch=>if a=d then .tells b (ch.map (·.1)) else .hears a
noncomputable def XJ:Ask->D
 |.fin=>.tup [.str "end"]
 |.tells b ws=>.tup [.str "tells",.int b,.tup<|ws.map D.str]
 |.hears a=>.tup [.str "hears",.int a]
theorem zOU(p:Pl)(d:Int):MT p d=XJ (ask p d):=by
 cases p with
 |fin=>rfl
 |tell a b ch=>
  unfold MT ask;by_cases h:a=d
  .simp[h,XJ]
  .simp[h,XJ]
theorem Pg:∀(l r:List Str),pF (l.map D.str) (r.map D.str)=decide (l=r)
 | [],[]=>by simp[pF]
 | [],_::_=>by simp[pF]
 |_::_,[]=>by simp[pF]
 |a::l,b::r=>by
  rw[eA,eA,pF,Pg l r,CD];by_cases h:a=b
  .subst h;simp
  .simp[h]
theorem P2:((fA "tells" : Str)==fA "end")=false:=by decide +kernel
theorem E2:((fA "end" : Str)==fA "tells")=false:=by decide +kernel
theorem J2:((fA "hears" : Str)==fA "end")=false:=by decide +kernel
theorem D2:((fA "end" : Str)==fA "hears")=false:=by decide +kernel
theorem Q2:((fA "tells" : Str)==fA "hears")=false:=by decide +kernel
theorem O2:((fA "hears" : Str)==fA "tells")=false:=by decide +kernel
theorem Be(a b:Int):(a==b)=decide (a=b):=by rw[bF]
theorem zWW(x y:Ask):CD (XJ x) (XJ y)=decide (x=y):=by
 cases x<;>cases y<;>dsimp[XJ,CD,pF,beq_self_eq_true,P2,E2,J2,D2,Q2,O2,Pg,Be,nM,vW,dI,wL,decide_true,decide_false,reduceCtorEq]
 .rename_i b ws b' j;by_cases h:b=b'<;>by_cases h':ws=j<;>simp[h,h']
 .rename_i a z;by_cases h:a=z<;>simp[h]
theorem zTv(x:Ask):mG (XJ x)<=20:=by
 have ds:∀ws:List Str,UH (ws.map D.str)<=1:=λws=>by
  induction ws with
  |nil=>show EB _
  |cons w ws ih=>show Ub.mpr ⟨EB _,ih⟩
 cases x with
 |fin=>decide
 |tells b ws=>have:=ds ws;dsimp[XJ,mG,UH];omega
 |hears a=>show VB rfl
theorem zTw(x y:Ask):AE (XJ x) (XJ y)>(.bl<|decide<|x=y):=by
 unfold AE;rw[if_pos (by have:=zTv x;omega),zWW]
theorem zI5(l:List Bool):RD.PV (l.map D.bl)>l:=by
 induction l with
 |nil=>rfl
 |cons x xs ih=>simp[RD.PV,ih]
theorem four{d:Int}(h0:0<=d)(h1:d<4):d=0\/d=1\/d=2\/d=3:=by
 obtain⟨n,rfl⟩:=ED h0;show(by decide:∀n:Nat,n<4->(n:Int)=0\/(n:Int)=1\/(n:Int)=2\/(n:Int)=3) n (LD.mp h1)
theorem zWX(h:0<=i/\i<1000000/\(DI++a++((toString i:String):Str)++b).length<=1000000):∃x,BS a b (.int i)>x:=by
 refine⟨.str<|DI++a++((toString i:String):Str)++b,?_⟩;dsimp[BS];rw[if_pos h]
theorem zWY{d:Int}(h0:0<=d)(h1:d<4):∃x,BS "dancer " " can't know which of unlike turns it is at" (.int d)>x:=by
 rcases four h0 h1 with rfl|rfl|rfl|rfl<;>show zWX (by decide +kernel)
theorem zWZ{d:Int}(h0:0<=d)(h1:d<4):∃x,BS "dancer " " may wait in vain for its turn" (.int d)>x:=by
 rcases four h0 h1 with rfl|rfl|rfl|rfl<;>show zWX (by decide +kernel)
def Bh(ts:List Pl)(d:Int):Except Nat D:=match ts with
 | []=>.ok<|.tup [.str "rests"]
 |t::ts=>if (t::ts).all (λu=>decide<|ask u d=ask t d) then .ok (XJ<|ask t d) else .error 0
theorem zKB(h0:0<=d)(h1:d<4)(ts:List Pl)(U:ts.length<=1000)(hc:∀t∈ts,(tH t).length<=3):
  yH [.lst<|ts.map KB,.int d]>Bh ts d:=by
 unfold Bh;obtain⟨x,hx⟩:=zWY h0 h1
 cases ts with
 |nil=>
  exists 0,yH,j9,cW,jH,oX,WA
 |cons t ts=>
  have S:WA (.lst (KB t::ts.map KB)) (.int 0)>KB t:=by dsimp[WA,FI]
  have m0:=zOT t d<|hc t gA;rw[zOU]at m0
  have I:zR (gN 3) (λ_=>some true) qL ((t::ts).map KB) [!.lst (KB t::ts.map KB),!.int d,!XJ (ask t d),.un]>((t::ts).map λu=>decide<|ask u d=ask t d).map D.bl:=by
   have:=yQ (g:=gN 3) (p:=λ_=>some true) (f:=qL) (emb:=KB) (ρ:=[!.lst (KB t::ts.map KB),!.int d,!XJ (ask t d),.un]) (λ_=>true) (λu=>D.bl<|decide<|ask u d=ask t d) (t::ts) λu Y=>by
    refine⟨_,rfl,rfl,λ_=>?_⟩;have m1:=zOT u d<|hc u Y;rw[zOU]at m1
    exists qL,m1,zTw,WA,CD,pF,zR,gN,gT,UD,vF,zw,zi,EG
   rw[this,wD.mpr (by simp),JA];rfl
  rw[eA]at I
  have O:AE (.int<|(ts.length:Int)+1) (.int 0)>.bl false:=by
   unfold AE;rw[if_pos<|by simp[mG]];unfold CD;rw[Be,decide_eq_false<|01]
  have l1:ts.length+1<=1000000:=by dsimp[kA]at U;omega
  have J:=zI5 ((t::ts).map λu=>decide<|ask u d=ask t d)
  have z:((t::ts).map λu=>decide<|ask u d=ask t d).all id=(t::ts).all λu=>decide (ask u d=ask t d):=by
   rw[mY];rfl
  generalize ((t::ts).map λu=>decide<|ask u d=ask t d)=bs at I J z;unfold yH j9
  cases ha:(t::ts).all λu=>decide (ask u d=ask t d) with
  |true=>
   rw[ha]at z
   exists cW,jH,oX,FT,cT,S,m0,I,O,l1,J,z,iA,YT,JF,CD,pF,gT,UD,vF,zw,zi,EG
   rw[ha];rfl
  |false=>
   rw[ha]at z
   exists cW,jH,oX,FT,cT,S,m0,I,O,l1,J,z,iA,YT,JF,hx,CD,pF,gT,UD,vF,zw,zi,EG
   rw[ha];rfl
noncomputable def gJ(qs:List (Str×Int)):List Str:=qs.foldl (λacc q=>if q.1∈acc then acc else acc++[q.1]) []
noncomputable def sel(w:Str)(qs:List (Str×Int)):List Int:=(qs.filter λq=>decide<|q.1=w).map (·.2)
def yh(qs:List (Str×Int)):List (kC×List D):=(gJ qs).map λw=>(MD w,(sel w qs).map D.int)
theorem D5(qs:List (Str×Int))(q:Str×Int):gJ (qs++[q])=if q.1∈gJ qs then gJ qs else gJ qs++[q.1]:=by
 unfold gJ;rw[List.foldl_append,JC,List.foldl_nil]
theorem Ph(w:Str)(qs:List (Str×Int))(q:Str×Int):sel w (qs++[q])=sel w qs++(if q.1=w then [q.2] else []):=by
 unfold sel;rw[List.filter_append,UA];by_cases h:q.1=w<;>simp[h]
theorem Pi{α:Type}{P:List α->Prop}(h0:P [])(h1:∀l a,P l->P (l++[a]))(l:List α):P l:=by
 have:∀n (l:List α),l.length=n->P l:=by
  intro n
  induction n with
  |zero=>intro l e;rw[YB.mp e];show h0
  |succ n ih=>
   intro l e;obtain⟨i,x,rfl⟩:=zOL (l:=l) 01;show h1 i x (ih i<|by simpa using e)
 show this _ l rfl
theorem Z4(qs:List (Str×Int)):(gJ qs).Nodup:=by
 refine Pi (P:=λqs=>(gJ qs).Nodup) (by simp[gJ]) (λl q ih=>?_) qs;rw[D5];split
 .show ih
 .rename_i h;show QB.mpr ⟨ih,by simp,λa ha b hb=>by simp at hb;subst hb;showλe=>h<|e ▸ ha⟩
theorem Qn(qs:List (Str×Int)):(gJ qs).length<=qs.length:=by
 refine Pi (P:=λqs=>(gJ qs).length<=qs.length) (by simp[gJ]) (λl q ih=>?_) qs;rw[D5];split<;>simp<;>omega
theorem vX:w∈gJ qs↔∃q∈qs,q.1=w:=by
 refine Pi (P:=λqs=>w∈gJ qs↔∃q∈qs,q.1=w) (by simp[gJ]) (λl q ih=>?_) qs;rw[D5];split
 .rename_i h;rw[ih];constructor
  .rintro⟨x,hx,e⟩;show⟨x,by simp[hx],e⟩
  .rintro⟨x,hx,e⟩;rcases nA.mp hx with hx|hx
   .show⟨x,hx,e⟩
   .simp at hx;subst hx;show ih.mp<|e ▸ h
 .rw[nA,ih];constructor
  .rintro(⟨x,hx,e⟩|hx)
   .show⟨x,by simp[hx],e⟩
   .simp at hx;show⟨q,by simp,hx.symm⟩
  .rintro⟨x,hx,e⟩;rcases nA.mp hx with hx|hx
   .show .inl ⟨x,hx,e⟩
   .simp at hx;subst hx;show .inr (by simp[e])
theorem zTx(w:Str)(qs:List (Str×Int)):(sel w qs).length<=qs.length:=by
 unfold sel;rw[iA];show QH ..
theorem Ap(g:Str->List D)(w:Str):∀L:List Str,vH (L.map λv=>((MD v:kC),g v)) (.inr w)=if w∈L then some (g w) else none
 | []=>rfl
 |v::L=>by
  have ih:=Ap g w L;unfold vH at ih|-;rw[eA,iB];by_cases e:v=w
  .subst e;simp
  .have j:¬ (MD v:kC)=MD w:=λz=>e ‹z›
   have I:¬ w=v:=λz=>e z.symm
   dsimp[j,decide_false,lA,I,false_or];show ih
theorem zK9(g:Str->List D)(w:Str)(x:List D):∀L:List Str,L.Nodup->w∈L->ZJ (.inr w) x (L.map λv=>((MD v:kC),g v))=L.map λv=>((MD v:kC),if v=w then x else g v)
 | [],_,h=>by simp at h
 |v::L,hn,h=>by
  obtain⟨h1,h2⟩:=OB.mp hn;rw[eA,eA];by_cases e:v=w
  .subst e;dsimp[ZJ,if_true,pC,true_and];refine nB λu I=>?_
   have:u≠v:=λz=>h1<|z ▸ I
   simp[this]
  .have j:¬ (MD v:kC)=MD w:=λz=>e ‹z›
   dsimp[ZJ,j,e,if_false,pC,true_and];rcases lA.mp h with h|h
   .show absurd h.symm e
   .show zK9 g w x L h2 h
theorem zTy{q:Str×Int}(h:q.1∈gJ qs):vH (yh qs) (.inr q.1)>(sel q.1 qs).map D.int/\ZJ (.inr q.1) ((sel q.1 qs).map D.int++[.int q.2]) (yh qs)=yh (qs++[q]):=by
 refine⟨by unfold yh;rw[Ap<|λw=>(sel w qs).map D.int,if_pos h],?_⟩;unfold yh;rw[zK9 (λw=>(sel w qs).map D.int) _ _ _ (Z4 qs) h,D5,if_pos h];refine nB λv _=>?_
 rw[Ph];by_cases e:v=q.1
 .simp[e]
 .simp[e,Ne.symm e]
theorem zTz{q:Str×Int}(h:q.1∉gJ qs):vH (yh qs) (.inr q.1)=none/\yh qs++[(.inr q.1,[.int q.2])]=yh (qs++[q]):=by
 refine⟨by unfold yh;rw[Ap<|λw=>(sel w qs).map D.int,if_neg h],?_⟩;unfold yh;rw[D5,if_neg h,UA]
 have s0:sel q.1 qs=[]:=by
  unfold sel;rw[List.map_eq_nil_iff,List.filter_eq_nil_iff];intro x hx z;show h (vX.mpr ⟨x,hx,‹z›⟩)
 congr 1
 .refine nB λv hv=>?_
  have:q.1≠v:=λz=>h<|z ▸ hv
  rw[Ph,if_neg this,oB]
 .simp[Ph,s0]
theorem zT0{qs:List (Str×Int)}{q:Str×Int}(j:qs.length<=1000):yZ [s0,.o none<|.p<|.ml<|yh qs,s2,!.str q.1,!.int q.2]>.nx [s0,.o none<|.p<|.ml<|yh<|qs++[q],s2,!.str q.1,!.int q.2]:=by
 have l1:(sel q.1 qs).length<1000000:=by have:=zTx q.1 qs;omega
 have l2:(yh qs).length<1000000:=by have:=Qn qs;simp[yh];omega
 by_cases h:q.1∈gJ qs
 .obtain⟨h1,h2⟩:=zTy h
  exists 0,yZ,Bk,iR,uK,h1,h2,l1,WA
 .obtain⟨h1,h2⟩:=zTz h
  exists 0,yZ,Bk,iR,uK,h1,h2,l2,WA
theorem zLA:∀(rs qs:List (Str×Int))(s3 s4:Sl),(qs++rs).length<=1000->∃j z,zi (gT 2<|UD (gN 3)<|UD (gN 4) vF) yZ (rs.map uE) [s0,.o none<|.p<|.ml<|yh qs,s2,s3,s4]>.nx [s0,.o none<|.p<|.ml<|yh<|qs++rs,s2,j,z]
 | [],qs,s3,s4,_=>⟨s3,s4,by simp[zi]⟩
 |q::rs,qs,s3,s4,hl=>by
  obtain⟨j,z,ih⟩:=zLA rs (qs++[q]) (!.str q.1) (!.int q.2) ‹hl›;refine⟨j,z,?_⟩;have hs:=zT0 (s0:=s0) (s2:=s2) (qs:=qs) (q:=q) (by simp at hl;omega);rw[eA,UR (ρ1:=[s0,.o none<|.p<|.ml<|yh qs,s2,!.str q.1,!.int q.2]) (by exists 0,uE,WA) hs,ih];simp
theorem zLB:∀(ts:List Pl)(qs:List (Str×Int))(s2 s3 s4:Sl),(qs++ts.flatMap tH).length<=1000->∃ER j z,zi (gN 2) qB (ts.map KB) [s0,.o none<|.p<|.ml<|yh qs,s2,s3,s4]>.nx [s0,.o none<|.p<|.ml<|yh<|qs++ts.flatMap tH,ER,j,z]
 | [],qs,s2,s3,s4,_=>⟨s2,s3,s4,by simp[zi]⟩
 |t::ts,qs,s2,s3,s4,hl=>by
  rw[dB,<- WB]at hl ⊢;obtain⟨j,z,I⟩:=zLA (s0:=s0) (s2:=!KB t) (tH t) qs s3 s4 (by rw[IA]at hl;omega);obtain⟨a,b,c,ih⟩:=zLB (s0:=s0) ts (qs++tH t) (!KB t) j z hl;refine⟨a,b,c,?_⟩
  have hs:qB [s0,.o none<|.p<|.ml<|yh qs,!KB t,s3,s4]>.nx [s0,.o none<|.p<|.ml<|yh<|qs++tH t,!KB t,j,z]:=by
   unfold qB
   exists zI2,I,WA,AE,CD,pF,zR,zw,EG
  rw[eA,UR (ρ1:=[s0,.o none<|.p<|.ml<|yh qs,!KB t,s3,s4]) (by exists 0,WA) hs,ih]
theorem zT1{ts:List Pl}(j:(ts.flatMap tH).length<=1000):yx [.lst<|ts.map KB]>(.o none<|.p<|.ml<|yh<|ts.flatMap tH):=by
 obtain⟨a,b,c,e⟩:=zLB (s0:=!.lst (ts.map KB)) ts [] .un .un .un ‹j›;have k0:yh []=[]:=rfl;rw[k0,lC]at e
 exists yx,Kg,bY,S6,Rt,By,Sl.isOwn,e,WA,AE,CD,pF,zR,gT,UD,vF,zw,EG
def GD(ps:List Pl)(d:Int)(S:List Int):List Int:=sL<|(run ps d 300 [] S).getD []
theorem Pj:∀{l:List Int},y∈FM x l↔y=x\/y∈l
 | []=>by simp[FM]
 |z::l=>by
  dsimp[FM];split
  .simp
  .dsimp[lA,Pj (l:=l)];constructor
   .rintro(h|h|h)<;>simp[h]
   .rintro(h|h|h)<;>simp[h]
theorem qk:∀{l:List Int},y∈sL l↔y∈l
 | []=>by simp[sL]
 |x::l=>by dsimp[sL,Pj,qk (l:=l),lA]
theorem zLC:∀{l:List Int},(FM x l).length=l.length+1
 | []=>rfl
 |z::l=>by dsimp[FM];split<;>simp[zLC (l:=l)]
theorem zI6:∀{l:List Int},(sL l).length=l.length
 | []=>rfl
 |x::l=>by dsimp[sL,zLC,zI6 (l:=l),kA]
theorem zOV:∀{l:List Int},l.Pairwise (· < ·)->x∉l->(FM x l).Pairwise (· < ·)
 | [],_,_=>by simp[FM]
 |z::l,h,n=>by
  obtain⟨h1,h2⟩:=MA.mp h;have j:x≠z:=λe=>n (by simp[e])
  have nl:x∉l:=λe=>n (by simp[e])
  dsimp[FM];split
  .rename_i q;have hz:x<z:=01
   show MA.mpr ⟨λy hy=>by
    rcases lA.mp hy with rfl|hy
    .show hz
    .have:=h1 y hy;omega,h⟩
  .rename_i q;refine MA.mpr ⟨λy hy=>?_,zOV h2 nl⟩;rcases Pj.mp hy with rfl|hy
   .omega
   .show h1 y hy
theorem Aq:∀{l:List Int},l.Nodup->(sL l).Pairwise (· < ·)
 | [],_=>by simp[sL]
 |x::l,h=>by
  obtain⟨h1,h2⟩:=OB.mp h;show zOV (Aq h2) λhy=>h1<|qk.mp hy
theorem Bm(h:yn m ps)(d:Int):∀(k:Nat)(found ws f:List Int),TH ps found->found.Nodup->TH ps ws->run ps d k found ws>f->TH ps f/\f.Nodup
 |0,_,_,_,_,_,_,e=>by simp[run]at e
 |k+1,found,ws,f,hf,hn,hi,e=>by
  unfold run at e
  cases q:ws.getLast? with
  |none=>rw[q]at e;cases e;show⟨hf,hn⟩
  |some n=>
   rw[q]at e;simp only at e;obtain⟨J,hp⟩:=C5 q;have I:=hi n (by rw[J];simp);have j:TH ps ws.dropLast:=λx hx=>hi x<|(NN _).subset hx
   split at e
   .show Bm h d k found ws.dropLast f hf hn j e
   .rename_i hm;refine Bm h d k (found++[n]) _ f (λx hx=>?_) ?_ (λx hx=>?_) e
    .rcases nA.mp hx with hx|hx
     .show hf x hx
     .simp at hx;subst hx;show I
    .show QB.mpr ⟨hn,by simp,λa ha b hb=>by simp at hb;subst hb;showλz=>hm<|z ▸ ha⟩
    .rcases nA.mp hx with hx|hx
     .show j x hx
     .show(Qm h d n).1 x hx
structure oJ(ps:List Pl)(K:List Int):Prop where
 inn:TH ps K
 up:K.Pairwise (· < ·)
 len:K.length<=40
theorem bS(h:yn m ps)(d:Int){S:List Int}(hs:TH ps S)(J:S.length<=100):oJ ps (GD ps d S)/\qi [uB m ps,.int d,.tup<|S.map D.int]>(.tup<|(GD ps d S).map D.int):=by
 obtain⟨f,j,z,e3⟩:=Ao h d S hs J;have I:GD ps d S=sL f:=by simp[GD,j]
 obtain⟨U,i2⟩:=Bm h d 300 [] S f (λ_ hx=>by simp at hx) (by simp) hs j;rw[I];show⟨⟨λn O=>U n<|qk.mp O,Aq i2,by rw[zI6];show z⟩,e3⟩
theorem zT2:ZM (tk found) (.inl n) (.bl true)=tk (if n∈found then found else found++[n]):=by
 by_cases h:n∈found
 .rw[if_pos h];unfold ZM;rw[if_pos]
  .unfold tk;rw[JA];refine nB λx _=>?_
   dsimp[Function.comp_def];split
   .rename_i e;simp at e;simp[e]
   .rfl
  .simp[tk];show h
 .rw[if_neg h];show zRr h
theorem zOW(ps:List Pl)(d:Int)(S:List Int):(turns ps d S).length<=S.length:=vA (QH ..)<|zI4 ps S
theorem zOX{ps:List Pl}(h:yn m ps)(O:0<=n/\n<(ps.length:Int)){found:List Int}(S:found.length<=1000):
  ∃I,I.length<=found.length+1/\(∀y,y∈I↔y∈found\/(y=n/\turns ps d (GD ps d [n])=[]))/\gX [!uB m ps,!.int d,.m<|tk found,!.int n]>.nx [!uB m ps,!.int d,.m<|tk I,!.int n]:=by
 have hi:TH ps [n]:=λx hx=>by simp at hx;subst hx;show O
 obtain⟨a1,a2⟩:=bS h d hi (by simp);have J:=zOS (m:=m) d a1.inn (by have:=a1.len;omega);dsimp[eA,FC]at a2;have l1:(tk found).length<1000000:=by simp[tk];omega
 have j:AE (.int (turns ps d<|GD ps d [n]).length) (.int 0)>(.bl<|decide<|((turns ps d<|GD ps d [n]).length:Int)=0):=by
  unfold AE;rw[if_pos<|by simp[mG]];unfold CD;rw[Be]
 have pt:=zT2 (n:=n) (found:=found);by_cases c:((turns ps d<|GD ps d [n]).length:Int)=0
 .rw[decide_eq_true c]at j;refine⟨if n∈found then found else found++[n],by split<;>simp,λy=>?_,?_⟩
  .have z:turns ps d (GD ps d [n])=[]:=YB.mp 01;dsimp[z,and_true];split
   .show⟨.inl,λq=>q.elim id λq=>by subst q;assumption⟩
   .rw[nA,jA]
  exists gX,a2,J,j,uK,l1,pt,WA,CD,pF,zR,gN,gT,UD,vF,zw,zi,EG
 .rw[decide_eq_false c]at j;refine⟨found,01,λy=>⟨.inl,λq=>q.elim id λz=>absurd (by rw[z.2];rfl) c⟩,?_⟩
  exists gX,a2,J,j,uK,l1,pt,WA,CD,pF,zR,gN,gT,UD,vF,zw,zi,EG
theorem Qo(lo:Int)(n:Nat):(rng lo n).length=n:=by simp[rng]
theorem zOY{ps:List Pl}(h:yn m ps)(d:Int):∀n:Nat,n<=ps.length->∃(found:List Int)(s3:Sl),(∀y:Int,y∈found↔∃i:Nat,i<n/\y=(i:Int)/\turns ps d (GD ps d [y])=[])/\zi (gN 3) gX (rng 0 n) [!uB m ps,!.int d,.m<|tk [],.un]>.nx [!uB m ps,!.int d,.m<|tk found,s3]:=by
 have hp:=h.n1
 have I:∀(is:List Nat)(found:List Int)(s3:Sl),(∀i∈is,i<ps.length)->found.length+is.length<=1000->∃(J:List Int)(S:Sl),(∀y:Int,y∈J↔y∈found\/∃i∈is,y=(i:Int)/\turns ps d (GD ps d [y])=[])/\zi (gN 3) gX (is.map λ(i:Nat)=>D.int<|0+(i:Int)) [!uB m ps,!.int d,.m<|tk found,s3]>.nx [!uB m ps,!.int d,.m<|tk J,S]:=by
  intro is
  induction is with
  |nil=>showλfound s3 _ _=>⟨found,s3,λy=>⟨.inl,λq=>q.elim id λ⟨_,z,_⟩=>nomatch z⟩,rfl⟩
  |cons n is ih=>
   intro found s3 hi hl;have O:=hi n gA;rw[kA]at hl;obtain⟨Y,l',new,e'⟩:=zOX h (d:=d) (n:=(n:Int)) 01 (found:=found) 01;obtain⟨Z,s2,j,U⟩:=ih Y (!.int (n:Int)) (λi q=>hi i<|bA _ q) 01;refine⟨Z,s2,λy=>(j y).trans ?_,?_⟩
   .rw[new];constructor
    .rintro((q|⟨rfl,q⟩)|⟨i,hi,q⟩)
     .show .inl q
     .show .inr ⟨n,gA,rfl,q⟩
     .show .inr ⟨i,bA _ hi,q⟩
    .rintro(q|⟨i,hi,rfl,q⟩)
     .show .inl<|.inl q
     .rcases lA.mp hi with rfl|hi
      .show .inl<|.inr ⟨rfl,q⟩
      .show .inr ⟨i,hi,rfl,q⟩
   .rw[eA,jE,UR rfl e',U]
 intro n O;obtain⟨f,s3,al,e⟩:=I (uA n) [] .un (λi q=>DA (wB.mp q) O) (by simp;omega);show⟨f,s3,λy=>(al y).trans ⟨λq=>q.elim (λz=>nomatch z) λ⟨i,hi,q⟩=>⟨i,wB.mp hi,q⟩,λ⟨i,hi,q⟩=>.inr ⟨i,wB.mpr hi,q⟩⟩,e⟩
theorem zWa{ps:List Pl}(h:yn m ps)(d:Int):∃found,(∀n:Int,0<=n->n<(ps.length:Int)->(n∈found↔turns ps d (GD ps d [n])=[]))/\VS [uB m ps,.int d]>(.m<|tk found):=by
 have hp:=h.n1;obtain⟨found,s3,al,e⟩:=zOY h d ps.length<|rA _;refine⟨found,λn n0 n1=>(al n).trans ⟨λ⟨_,_,_,z⟩=>z,λz=>⟨n.toNat,01,01,z⟩⟩,?_⟩;have I:WA (uB m ps) (.int 1)>(.tup<|ps.map KB):=by dsimp[uB,WA,sN]
 have j:tk []=[]:=rfl;rw[j]at e;have ir:RD.inR (ps.length:Int)=true:=zI1 01;unfold VS bY
 have J:Y4 [!uB m ps,!.int d,.un,.un]>(.ro<|.m<|tk found):=by
  unfold Y4;refine(zl (ρ':=[!uB m ps,!.int d,.m [],.un]) rfl).trans ((zl<|(TR<|FQ (n:=ps.length) ?_<|01).trans e).trans rfl);dsimp[zC,b1,b2,YX,I,cH,jB,dA,iA,wA]
 change(Y4 [!uB m ps,!.int d,.un,.un]).bind S6=_;rw[J];rfl
theorem zQi(h0:0<=d)(h1:d<4)(K:List Int)(ts:List Pl)(found:List Int)(Y:K.length<=1000):∃r,((r=.ok .non/\(ts=[]\/∀n∈K,n∉found))\/(r=.error 0/\ts≠[]/\∃n∈K,n∈found))/\zt [.int d,.tup<|K.map D.int,.lst<|ts.map KB] (.p<|.m<|tk found)>r:=by
 obtain⟨x,hx⟩:=zWZ h0 h1
 have I:∀a:Addr,zR (gN 4) (λ_=>some true) z7 (K.map D.int) [!.int d,!.tup (K.map D.int),!.lst (ts.map KB),.b a<|.p<|.m<|tk found,.un]>(K.map λn=>decide<|n∈found).map D.bl:=λa=>by
  have:=yQ (g:=gN 4) (p:=λ_=>some true) (f:=z7) (emb:=D.int) (ρ:=[!.int d,!.tup (K.map D.int),!.lst (ts.map KB),.b a<|.p<|.m<|tk found,.un]) (λ_=>true) (λn=>D.bl<|decide<|n∈found) K λn _=>by
   refine⟨_,rfl,rfl,λ_=>?_⟩;have U:=Sd n found
   exists 0,z7,AV,uX,uK,U,WA
  rw[this,wD.mpr (by simp),JA];rfl
 have j:=zI5 (K.map λn=>decide<|n∈found)
 have kf:(K.map λn=>decide<|n∈found).any id=false->∀n∈K,n∉found:=λq n J hf=>by
  rw[sJ]at q;show q _ (IB J)<|decide_eq_true hf
 have S:(K.map λn=>decide<|n∈found).any id=true->∃n∈K,n∈found:=λq=>by
  obtain⟨b,hb,e⟩:=eE.mp q;obtain⟨n,J,rfl⟩:=LA.mp hb;show⟨n,J,of_decide_eq_true e⟩
 generalize (K.map λn=>decide<|n∈found)=bs at I j kf S;have l1:K.length<=1000000:=01
 by_cases c:ts.length=0
 .refine⟨.ok .non,.inl ⟨rfl,.inl<|YB.mp c⟩,ZO λa=>?_⟩
  exists L6,zr,FT,oX,cT,c,WA,AE,CD,pF,gT,UD,vF,zw,zi,EG
 .have O:(0:Int)<(ts.length:Int):=01
  cases hb:bs.any id with
  |true=>
   refine⟨.error 0,.inr ⟨rfl,λz=>c (by rw[z];rfl),S hb⟩,ZO λa=>?_⟩
   exists L6,zr,FT,oX,cT,O,I,l1,j,hb,hx,WA,AE,CD,pF,gT,UD,vF,zw,zi,EG
  |false=>
   refine⟨.ok .non,.inl ⟨rfl,.inr<|kf hb⟩,ZO λa=>?_⟩
   exists L6,zr,FT,oX,cT,O,I,l1,j,hb,hx,WA,AE,CD,pF,gT,UD,vF,zw,zi,EG
noncomputable def kP{α:Type}:List α->List (List α)
 | []=>[[]]
 |x::l=>kP l++(kP l).map (x :: ·)
theorem zLE{α:Type}:∀l:List α,(kP l).length=2 ^ l.length
 | []=>rfl
 |x::l=>by rw[kP,IA,iA,zLE l,kA,Nat.pow_succ];omega
theorem zLF{α:Type}{s l:List α}(h:s.Sublist l):s∈kP l:=by
 induction h with
 |slnil=>simp[kP]
 |cons a _ ih=>show nA.mpr<|.inl ih
 |cons_cons a _ ih=>show nA.mpr<|.inr<|LA.mpr ⟨_,ih,rfl⟩
theorem E5{α:Type}[DecidableEq α]:∀{l L:List α},l.Nodup->(∀x∈l,x∈L)->l.length<=L.length
 | [],_,_,_=>EB _
 |x::l,L,h,k=>by
  obtain⟨h1,h2⟩:=OB.mp h;have hx:=k x gA;have ih:=E5 (l:=l) (L:=L.erase x) h2 λy hy=>(List.mem_erase_of_ne<|λ(e:y=x)=>h1<|e ▸ hy).mpr<|k y<|bA _ hy
  rw[List.length_erase_of_mem hx]at ih;have:0<L.length:=List.length_pos_of_mem hx;rw[kA];omega
noncomputable def uV(e h:Int):Pl->List Int
 |.fin=>[]
 |.tell a b ch=>if a=e/\b=h then ch.map (·.2) else []
def IR(ps:List Pl)(e h:Int):List Int:=ps.flatMap<|uV e h
theorem M5(e h:Int):∀ps:List Pl,(IR ps e h).length=VG e h (ps.map KB)
 | []=>rfl
 |p::ps=>by
  have ih:=M5 e h ps;unfold IR at ih|-;rw[dB,IA,ih,eA,VG]
  congr 1
  cases p with
  |fin=>rfl
  |tell a b ch=>
   refine Eq.trans ?_ kT.symm;dsimp[uV,pr];split<;>simp
def eY(ps:List Pl)(d:Int):List (List Int):=GD ps d [0]::[0,1,2,3].flatMap λ(e:Int)=>(kP<|IR ps e d).map (GD ps d)++(kP<|IR ps d e).map (GD ps d)
def kJ(ps:List Pl):Prop:=∀e h,VG e h (ps.map KB)<=20
theorem zLG(hf:kJ ps)(d:Int):(eY ps d).length<=8388609:=by
 have p:∀e h,(kP<|IR ps e h).length<=1048576:=λe h=>by
  rw[zLE,M5];show vA (Nat.pow_le_pow_right 02<|hf e h) 02
 have a0:=p 0 d;have a1:=p 1 d;have a2:=p 2 d;have j:=p 3 d;have b0:=p d 0;have b1:=p d 1;have b2:=p d 2;have b3:=p d 3;dsimp[eY,dB,VQ,kA,IA,iA,KC];omega
theorem zQj{α j:Type}{g:α->List j}{s l:List α}(h:s.Sublist l):(s.flatMap g).Sublist (l.flatMap g):=by
 induction h with
 |slnil=>simp
 |cons a _ ih=>rw[dB];show ih.trans<|List.sublist_append_right ..
 |cons_cons a _ ih=>rw[dB,dB];show(Cy _).append ih
theorem zLH{α j:Type}{f g:α->Option j}:∀{l:List α},(∀x∈l,f x=g x)->l.filterMap f=l.filterMap g
 | [],_=>rfl
 |x::l,h=>by rw[OC,OC,h x gA,zLH λy hy=>h y<|bA _ hy]
theorem zI7:∀(ps:List Pl)(off:Int)(K:List Int),K.Pairwise (· < ·)->(∀n∈K,off<=n/\n<off+(ps.length:Int))->(K.filterMap λn=>ps[(n-off).toNat]?).Sublist ps
 |[],off,K,_,h=>by
  cases K with
  |nil=>simp
  |cons n K=>have:=h n gA;simp at this;omega
 |p::ps,off,K,hp,h=>by
  have up:∀K:List Int,K.Pairwise (· < ·)->(∀n∈K,off<n/\n<off+((p::ps).length:Int))->(K.filterMap λn=>(p::ps)[(n-off).toNat]?).Sublist ps:=λK hp h=>by
   have:=zI7 ps (off+1) K hp λn j=>by have:=h n j;dsimp[kA]at this;omega
   rw[show(K.filterMap λn=>(p::ps)[(n-off).toNat]?)=K.filterMap λn=>ps[(n-(off+1)).toNat]? from zLH λn j=>by
    have:=h n j;rw[show(n-off).toNat=(n-(off+1)).toNat+1 by omega,CB]]
   show this
  cases K with
  |nil=>simp
  |cons n K=>
   obtain⟨h1,h2⟩:=MA.mp hp;have j:=h n gA;by_cases e:n=off
   .subst e;rw[OC];dsimp[Int.sub_self,AW,jB];show(up K h2 λx hx=>⟨h1 x hx,(h x<|bA _ hx).2⟩).cons_cons p
   .refine(up (n::K) hp λx hx=>⟨?_,(h x hx).2⟩).cons p;rcases lA.mp hx with rfl|hx
    .omega
    .have:=h1 x hx;omega
theorem zOZ(h:oJ ps K)(d:Int):(turns ps d K).Sublist ps:=by
 have:=zI7 ps 0 K h.up λn j=>by have:=h.inn n j;omega
 dsimp[Int.sub_zero]at this;show(EO).trans this
def DJ(ps:List Pl)(d:Int)(K:List Int):List (Str×Int):=(turns ps d K).flatMap tH
def MQ(ps:List Pl)(d:Int)(K:List Int)(w:Str):List Int:=GD ps d<|sel w<|DJ ps d K
def PL(ps:List Pl)(d:Int)(K:List Int):Bool:=match turns ps d K with
 | []=>true
 |t::ts=>(t::ts).all λu=>decide<|ask u d=ask t d
theorem zRt(h:oJ ps K)(ha:PL ps d K=true):DJ ps d K=[]\/∃e h,(e=d\/h=d)/\(∃t∈turns ps d K,∃ch,t=.tell e h ch)/\((DJ ps d K).map (·.2)).Sublist (IR ps e h):=by
 have sub:=zOZ h d;have tt:∀t∈turns ps d K,MP t d=true:=λt U=>(LC.mp U).2
 unfold DJ;unfold PL at ha
 cases e:turns ps d K with
 |nil=>left;rfl
 |cons t ts=>
  rw[e]at ha sub tt;dsimp[dE,decide_eq_true_eq]at ha
  have fin:∀e h,(∀u∈t::ts,∃ch,u=.tell e h ch)->((((t::ts).flatMap tH)).map (·.2)).Sublist (IR ps e h):=λe h k=>by
   have S:((t::ts).flatMap tH).map (·.2)=(t::ts).flatMap (uV e h):=by
    rw[WQ]
    have O:∀(l:List Pl),(∀u∈l,∃ch,u=.tell e h ch)->l.flatMap (λa=>(tH a).map (·.2))=l.flatMap (uV e h):=by
     intro l
     induction l with
     |nil=>intro _;rfl
     |cons u l ih=>
      intro k;obtain⟨ch,rfl⟩:=k u gA;rw[dB,dB,ih λv hv=>k v<|bA _ hv];simp[tH,uV]
    show O _ k
   rw[S];show zQj sub
  cases t with
  |fin=>
   left
   rw[List.flatMap_eq_nil_iff];intro u j;have:=ha u j
   cases u with
   |fin=>rfl
   |tell a b ch=>dsimp[ask]at this;split at this<;>cases this
  |tell a b ch=>
   right
   by_cases c:a=d
   .subst c;refine⟨a,b,.inl rfl,⟨_,gA,ch,rfl⟩,fin a b λu j=>?_⟩;have:=ha u j
    cases u with
    |fin=>simp[ask]at this
    |tell J b' I=>
     dsimp[ask,if_true]at this;split at this
     .rename_i z;subst z;injection this with this _;subst this;show⟨_,rfl⟩
     .cases this
   .have hb:b=d:=by
     have:=tt _ gA;dsimp[MP,tp,HH,decide_eq_true_eq]at this;rcases this with z|z
     .show absurd z.symm c
     .show z.symm
    subst hb;refine⟨a,b,.inr rfl,⟨_,gA,ch,rfl⟩,fin a b λu j=>?_⟩;have:=ha u j;have t2:=tt u j
    cases u with
    |fin=>simp[ask,c]at this
    |tell J b' I=>
     dsimp[ask,c,if_false]at this;split at this
     .cases this
     .rename_i z;cases this;dsimp[MP,tp,HH,decide_eq_true_eq]at t2;rcases t2 with q|q
      .show absurd q.symm z
      .subst q;show⟨_,rfl⟩
theorem zT3(w:Str)(qs:List (Str×Int)):(sel w qs).Sublist (qs.map (·.2)):=Cv _<|EO
theorem qM{ps:List Pl}(h:yn m ps)(j:t∈turns ps d K):mJ m (λn=>0<=n/\n<(ps.length:Int)) t:=by
 have:=(LC.mp j).1;obtain⟨n,_,e⟩:=kB.mp this;show h.ok t<|xA e
theorem zWb{ps:List Pl}(h:yn m ps){q:Str×Int}(hq:q∈DJ ps d K):(0<=q.2/\q.2<(ps.length:Int))/\eM q.1:=by
 obtain⟨t,j,hc⟩:=VC.mp hq;have ok:=qM h j;refine⟨ok.next hc,?_⟩
 cases t with
 |fin=>simp[tH]at hc
 |tell a b ch=>show ok.wd q hc
theorem Qp(h:yn m ps)(hf:kJ ps)(hd:0<=d/\d<m)(hk:oJ ps K)(ha:PL ps d K=true)(w:Str)(U:w∈gJ (DJ ps d K)):
  MQ ps d K w∈eY ps d/\TH ps (sel w<|DJ ps d K)/\(sel w<|DJ ps d K).length<=20:=by
 have inn:TH ps (sel w<|DJ ps d K):=λn O=>by
  obtain⟨q,hq,rfl⟩:=LA.mp O;show(zWb h (LC.mp hq).1).1
 obtain⟨q,hq,_⟩:=vX.mp U;rcases zRt hk ha with z|⟨e,e',j,⟨t,S,ch,rfl⟩,s⟩
 .rw[z]at hq;simp at hq
 .have s':=(zT3 w<|DJ ps d K).trans s;have ok:RM m _ e e' ch:=qM h S;have hm:=h.m1;refine⟨?_,inn,vA s'.length_le (by rw[M5];show hf _ _)⟩;refine bA _<|VC.mpr ?_;have I:=ok.a0;have Y:=ok.a1;have J:=ok.b0;have e3:=ok.b1;rcases j with rfl|rfl
  .show⟨e',by rcases four J 01 with z|z|z|z<;>simp[z],nA.mpr<|.inr<|LA.mpr ⟨_,zLF s',rfl⟩⟩
  .show⟨e,by rcases four I 01 with z|z|z|z<;>simp[z],nA.mpr<|.inl<|LA.mpr ⟨_,zLF s',rfl⟩⟩
theorem zRu(hf:kJ ps)(hk:oJ ps K)(ha:PL ps d K=true):(DJ ps d K).length<=20:=by
 rcases zRt hk ha with z|⟨e,e',_,_,s⟩
 .rw[z];simp
 .have:=s.length_le;rw[iA,M5]at this;show vA this<|hf _ _
noncomputable def jF(K:List Int):D:=.tup<|K.map D.int
noncomputable def EM(Ks:List (List Int))(K:List Int):Nat:=match Ks with
 | []=>0
 |K'::r=>if K'=K then 0 else EM r K+1
theorem zOa:∀{Ks:List (List Int)},K∈Ks->EM Ks K<Ks.length
 | [],h=>by simp at h
 |K'::r,h=>by
  unfold EM;split
  .simp
  .rename_i n;rcases lA.mp h with e|h
   .show absurd e.symm n
   .have:=zOa h;rw[kA];omega
theorem Pk(r:List (List Int)):∀{Ks:List (List Int)},K∈Ks->EM (Ks++r) K=EM Ks K
 | [],h=>by simp at h
 |K'::Ks,h=>by
  rw[fC];unfold EM;split
  .rfl
  .rename_i n;rcases lA.mp h with e|h
   .show absurd e.symm n
   .rw[Pk r h]
noncomputable def xO(i:Nat):List (List Int)->List (List kC×D)
 | []=>[]
 |K::r=>(K.map DC,.int i)::xO (i+1) r
abbrev yL(Ks:List (List Int)):List (List kC×D):=xO 0 Ks
theorem zOb{K K':List Int}:K.map (DC:Int->kC)=K'.map DC↔K=K':=by
 constructor
 .intro h
  induction K generalizing K' with
  |nil=>cases K' with
   |nil=>rfl
   |cons=>simp at h
  |cons a K ih=>cases K' with
   |nil=>simp at h
   |cons b K'=>dsimp[eA,pC,Sum.inl.injEq]at h;rw[h.1,ih h.2]
 .rintro rfl;rfl
theorem Pn{K:List Int}:∀(Ks:List (List Int))(i:Nat),vH (xO i Ks) (K.map DC)=if K∈Ks then some (.int ((i+EM Ks K:Nat):Int)) else none
 | [],i=>rfl
 |K'::r,i=>by
  have ih:=Pn (K:=K) r<|i+1;unfold vH at ih|-;rw[xO,iB];by_cases e:K'=K
  .subst e;simp[EM]
  .have j:¬ (K'.map (DC:Int->kC))=K.map DC:=λz=>e (zOb.mp z)
   have I:¬ K=K':=λz=>e z.symm
   dsimp[j,decide_false,lA,I,false_or,EM,e,if_false];rw[ih];split
   .congr 3;omega
   .rfl
theorem zQk{K:List Int}{Ks:List (List Int)}(h:K∉Ks):lW (yL Ks) (K.map DC) (.int (Ks.length:Int))=yL (Ks++[K]):=by
 have g:∀(Ks:List (List Int))(i:Nat),K∉Ks->((xO i Ks).any λkv=>decide<|kv.1=K.map DC)=false/\xO i Ks++[(K.map DC,.int ((i+Ks.length:Nat):Int))]=xO i (Ks++[K]):=by
  intro Ks
  induction Ks with
  |nil=>intro i _;show⟨rfl,rfl⟩
  |cons K' r ih=>
   intro i h;obtain⟨h1,h2⟩:=ih (i+1) λz=>h<|bA _ z
   refine⟨?_,?_⟩
   .rw[xO,mD,h1,FG];show decide_eq_false λz=>h (by rw[zOb.mp z];simp)
   .rw[xO,fC,fC,xO,<- h2,kA,show i+(r.length+1)=i+1+r.length by omega]
 obtain⟨h1,h2⟩:=g Ks 0 h;unfold lW;rw[h1,if_neg<|by simp];rw[LH]at h2;show h2
theorem zLI:∀(Ks:List (List Int))(i:Nat),(xO i Ks).length=Ks.length
 | [],_=>rfl
 |K::r,i=>by rw[xO,kA,zLI r,kA]
theorem zOc(K:List Int):jQ (jF K)>K.map DC:=by
 have:∀K:List Int,C6 (K.map D.int)>K.map DC:=by
  intro K
  induction K with
  |nil=>rfl
  |cons n K ih=>simp[C6,uK,ih]
 show this K
theorem zWc(w:Str)(n:Int):D.tup [.str w,.int n]=uE (w,n):=rfl
noncomputable def CI(Ks:List (List Int))(N:List Int):List (List Int):=if N∈Ks then Ks else Ks++[N]
theorem zLJ(Ks:List (List Int))(N:List Int):N∈CI Ks N:=by unfold CI;split<;>simp[*]
theorem zQl(Ks:List (List Int))(N:List Int):∃r,CI Ks N=Ks++r:=by
 unfold CI;split
 .show⟨[],by simp⟩
 .show⟨[N],rfl⟩
theorem zT4{Ks:List (List Int)}(h:Ks.Nodup):(CI Ks N).Nodup:=by
 unfold CI;split
 .show h
 .rename_i n;show QB.mpr ⟨h,by simp,λa ha b hb=>by simp at hb;subst hb;showλz=>n<|z ▸ ha⟩
theorem zOd{Ks:List (List Int)}{qs prs:List (Str×Int)}(O:w∈gJ qs)(ha:qi [uB m ps,.int d,.tup<|(sel w qs).map D.int]>(jF<|GD ps d<|sel w qs))(hk:Ks.length<16000000)(hp:prs.length<16000000):
  E9 [!uB m ps,!.int d,s2,.l<|Ks.map jF,.o none<|.p<|.t<|yL Ks,s5,s6,s7,s8,.o none<|.p<|.ml<|yh qs,.l<|prs.map uE,!.str w,s12] =
   some (.nx [!uB m ps,!.int d,s2,.l<|(CI Ks<|GD ps d<|sel w qs).map jF,.o none<|.p<|.t<|yL<|CI Ks<|GD ps d<|sel w qs,s5,s6,s7,s8,.o none<|.p<|.ml<|yh qs,.l<|(prs++[(w,(EM (CI Ks<|GD ps d<|sel w qs) (GD ps d<|sel w qs):Int))]).map uE,!.str w,.v<|jF<|GD ps d<|sel w qs]):=by
 have g:vH (yh qs) (.inr w)>(sel w qs).map D.int:=by unfold yh;rw[Ap<|λw=>(sel w qs).map D.int,if_pos O]
 generalize GD ps d (sel w qs)=N at *;have kN:=zOc N;have j:=Pn (K:=N) Ks 0;have I:=Pn (K:=N) (CI Ks N) 0;rw[if_pos<|zLJ Ks N,LH]at I;have nl:=zLI Ks 0;unfold E9;refine(zl (ρ':=[!uB m ps,!.int d,s2,.l<|Ks.map jF,.o none<|.p<|.t<|yL Ks,s5,s6,s7,s8,.o none<|.p<|.ml<|yh qs,.l<|prs.map uE,!.str w,!jF N]) ?_).trans ?_
 .exists 0,Tb,iR,uK,g,ha,WA
 .have s1:(nG (U6 4<|gV 12) (sq (Bz 4 (gV 12)<|b1 (gR 3) cH)<|AO 3<|gV 12)<|λρ=>some<|Out.nx ρ) [!uB m ps,!.int d,s2,.l<|Ks.map jF,.o none<|.p<|.t<|yL Ks,s5,s6,s7,s8,.o none<|.p<|.ml<|yh qs,.l<|prs.map uE,!.str w,!jF N] =
   some (.nx [!uB m ps,!.int d,s2,.l<|(CI Ks N).map jF,.o none<|.p<|.t<|yL<|CI Ks N,s5,s6,s7,s8,.o none<|.p<|.ml<|yh qs,.l<|prs.map uE,!.str w,!jF N]):=by
   by_cases c:N∈Ks
   .rw[if_pos c]at j;have z:CI Ks N=Ks:=by simp[CI,c]
    rw[z]
    exists 0,U6,CS,kN,j,kO,WA
   .rw[if_neg c]at j;have z:CI Ks N=Ks++[N]:=by simp[CI,c]
    have np:=zQk c;rw[z];have J:(xO 0 Ks).length<16000000:=by rw[nl];show hk
    exists 0,U6,CS,Bz,kN,j,Option.isSome_none,J,hk,np,UA,WA
  refine(zl s1).trans ?_
  exists 0,sV,CS,kN,I,hp,UA,zWc,WA
theorem zHA(B:Nat)(hB:B<12000000)(pl:List (List Int))(BE:pl.length<=B)(ha:∀w∈gJ qs,GD ps d (sel w qs)∈pl/\qi [uB m ps,.int d,.tup<|(sel w qs).map D.int]>(jF<|GD ps d<|sel w qs)):
  ∀(ws:List Str)(Ks:List (List Int))(prs:List (Str×Int))(s11 s12:Sl),(∀w∈ws,w∈gJ qs)->Ks.Nodup->(∀K∈Ks,K∈pl)->prs.length+ws.length<16000000 ->
   ∃r I J,Ks++r=ws.foldl (λKs w=>CI Ks<|GD ps d<|sel w qs) Ks/\(Ks++r).Nodup/\(∀K∈Ks++r,K∈pl)/\(∀w∈ws,GD ps d (sel w qs)∈Ks++r) /\
    zi (gN 11) E9 (ws.map D.str) [!uB m ps,!.int d,s2,.l<|Ks.map jF,.o none<|.p<|.t<|yL Ks,s5,s6,s7,s8,.o none<|.p<|.ml<|yh qs,.l<|prs.map uE,s11,s12] =
     some (.nx [!uB m ps,!.int d,s2,.l<|(Ks++r).map jF,.o none<|.p<|.t<|yL<|Ks++r,s5,s6,s7,s8,.o none<|.p<|.ml<|yh qs,.l<|(prs++ws.map λw=>(w,(EM (Ks++r) (GD ps d<|sel w qs):Int))).map uE,I,J])
 | [],Ks,prs,s11,s12,_,hn,hs,_=>⟨[],s11,s12,oB _,‹hn›,‹hs›,by simp,by simp[zi]⟩
 |w::ws,Ks,prs,s11,s12,hw,hn,hs,hl=>by
  have Y:=hw w gA;obtain⟨a1,a2⟩:=ha w Y;rw[kA]at hl;have kl:=E5 hn hs;obtain⟨r1,O⟩:=zQl Ks<|GD ps d<|sel w qs;have st:=zOd (s2:=s2) (s5:=s5) (s6:=s6) (s7:=s7) (s8:=s8) (s12:=s12) (Ks:=Ks) (prs:=prs) Y a2 01 01;have S:=zT4 (N:=GD ps d<|sel w qs) hn;have z:=zLJ Ks<|GD ps d<|sel w qs
  have AQ:∀K∈CI Ks (GD ps d<|sel w qs),K∈pl:=λK hK=>by
   unfold CI at hK;split at hK
   .show hs K hK
   .rcases nA.mp hK with hK|hK
    .show hs K hK
    .simp at hK;subst hK;show a1
  obtain⟨r,I,J,j,U,i2,i3,i4⟩:=zHA B hB pl BE ha ws (CI Ks<|GD ps d<|sel w qs) (prs++[(w,(EM (CI Ks<|GD ps d<|sel w qs) (GD ps d<|sel w qs):Int))]) (!.str w) (.v<|jF<|GD ps d<|sel w qs) (λv hv=>hw v<|bA _ hv) S AQ (by simp;omega);have Z:=Pk r z;rw[<- JC (f:=λKs w=>CI Ks<|GD ps d<|sel w qs)]at j;rw[O]at st j U i2 i3 i4 Z z;rw[WB]at j U i2 i3;refine⟨r1++r,I,J,j,U,i2,λv hv=>?_,?_⟩
  .rcases lA.mp hv with rfl|hv
   .rw[<- WB];show nA.mpr<|.inl z
   .show i3 v hv
  .rw[eA,UR (ρ1:=[!uB m ps,!.int d,s2,.l<|Ks.map jF,.o none<|.p<|.t<|yL Ks,s5,s6,s7,s8,.o none<|.p<|.ml<|yh qs,.l<|prs.map uE,!.str w,s12]) rfl st,i4,<- WB,<- Z];simp
theorem GQ{F G:lB->Option fG}(h:F ρ>(.o<|.nx ρ')):jH F G ρ=G ρ':=by dsimp[jH,h,dA]
theorem Bn{F G:lB->Option fG}(h:F ρ>.ex c):jH F G ρ>.ex c:=by dsimp[jH,h,dA]
theorem lT{F:aC}(h:F ρ>o):oX F ρ>.o o:=by dsimp[oX,h,wA]
inductive St where
 |fin|rests|act (t:Bool) (o:Int) (prs:List (Str×Int))
def oE:St->D
 |.fin=>.tup [.str "end"]
 |.rests=>.tup [.str "rests"]
 |.act t o prs=>.tup [.str<|if t then "tells" else "hears",.int o,.tup<|prs.map uE]
def yi(ps:List Pl)(d:Int)(K:List Int):List Str:=UM<|gJ<|DJ ps d K
def WM(ps:List Pl)(d:Int)(Ks:List (List Int))(K:List Int):List (Str×Int):=(yi ps d K).map λw=>(w,(EM Ks (MQ ps d K w):Int))
def EJ(ps:List Pl)(d:Int)(Ks:List (List Int))(K:List Int):St:=match turns ps d K with
 | []=>.rests
 |t::_=>match ask t d with
  |.fin=>.fin
  |.tells b _=>.act true b<|WM ps d Ks K
  |.hears a=>.act false a<|WM ps d Ks K
def Bo(ps:List Pl)(d:Int)(Ks:List (List Int))(K:List Int):Prop:=∀w∈yi ps d K,MQ ps d K w∈Ks
theorem zQm(h:Bo ps d Ks K)(r:List (List Int)):EJ ps d (Ks++r) K=EJ ps d Ks K:=by
 have:WM ps d (Ks++r) K=WM ps d Ks K:=nB λw j=>by rw[Pk r<|h w j]
 unfold EJ;rw[this]
theorem Se(x:Ask):QM (match x with | .fin=>D.str "end" | .tells _ _=>D.str "tells" | .hears _=>D.str "hears") (.tup [.str "tells",.str "hears"])>.bl (match x with | .fin=>false|_=>true):=by
 cases x<;>(unfold QM;rw[if_pos<|by simp[mG]];dsimp[mD,nY,CD,beq_self_eq_true,P2,J2,Q2,FG,fN,rJ])
theorem zQn:QM (D.str "rests") (.tup [.str "tells",.str "hears"])>.bl false:=by
 have a:((fA "tells" : Str)==fA "rests")=false:=by decide +kernel
 have b:((fA "hears" : Str)==fA "rests")=false:=by decide +kernel
 unfold QM;rw[if_pos<|by simp[mG]];dsimp[mD,nY,CD,a,b,FG]
def HQ(ps:List Pl)(d:Int)(K:List Int):D:=match turns ps d K with
 | []=>.tup [.str "rests"]
 |t::_=>XJ<|ask t d
theorem zT5{DD:List St}(I:DD.length<16000000):
  (AO 5<|BV (bB<|b2 (b2 (gR 8) (zM 0) WA) (λρ=>((zC (λ_=>some<|D.str "tells")<|zC (λ_=>some<|D.str "hears") zN) ρ).map D.tup) QM) (λρ=>((zC (b2 (gR 8) (zM 0) WA)<|zC (b2 (gR 8) (zM 1) WA)<|zC (b1 (gR 10) tK) zN) ρ).map D.tup)<|gV 8)
   [s0,s1,s2,s3,s4,.l<|DD.map oE,s6,s7,!HQ ps d K,s9,.l<|(WM ps d Ks K).map uE,s11,s12] =
   some (.nx [s0,s1,s2,s3,s4,.l<|(DD++[EJ ps d Ks K]).map oE,s6,s7,!HQ ps d K,s9,.l<|(WM ps d Ks K).map uE,s11,s12]):=by
 unfold HQ EJ
 cases turns ps d K with
 |nil=>
  have j:WA (.tup [.str "rests"]) (.int 0)>.str "rests":=by dsimp[WA,FI]
  exists 0,BV,j,zQn,I,UA,oE
 |cons t ts=>
  simp only;generalize ask t d=x
  cases x with
  |fin=>
   have j:WA (XJ .fin) (.int 0)>.str "end":=by dsimp[XJ,WA,FI]
   have z:=Se .fin
   exists 0,BV,j,z,I,UA,oE
   rfl
  |tells b ws=>
   have j:WA (XJ<|.tells b ws) (.int 0)>.str "tells":=by dsimp[XJ,WA,FI]
   have J:WA (XJ<|.tells b ws) (.int 1)>.int b:=by dsimp[XJ,WA,sN]
   have z:=Se<|.tells b ws
   exists 0,BV,j,J,z,I,UA,oE
  |hears a=>
   have j:WA (XJ<|.hears a) (.int 0)>.str "hears":=by dsimp[XJ,WA,FI]
   have J:WA (XJ<|.hears a) (.int 1)>.int a:=by dsimp[XJ,WA,sN]
   have z:=Se<|.hears a
   exists 0,BV,j,J,z,I,UA,oE
theorem qX:w∈yi ps d K↔w∈gJ (DJ ps d K):=Z9
theorem zQo(qs:List (Str×Int)):(yh qs).map (λq=>gP q.1)=(gJ qs).map D.str:=by
 unfold yh;rw[JA];rfl
theorem zOf{l:List Str}(h:l.length<64):JQ (.lst<|l.map D.str)>(UM l).map D.str:=zI0 h
theorem zWd{ps:List Pl}(h:yn m ps)(j:n∈IR ps e e'):0<=n/\n<(ps.length:Int):=by
 obtain⟨p,hp,hm⟩:=VC.mp j
 cases p with
 |fin=>simp[uV]at hm
 |tell a b ch=>
  dsimp[uV]at hm;split at hm
  .obtain⟨q,hq,rfl⟩:=LA.mp hm;show(h.ok _ hp:RM _ _ _ _ _).nx q hq
  .simp at hm
theorem Qq{α:Type}{s:List α}:∀{l:List α},s∈kP l->s.Sublist l
 | [],h=>by simp[kP]at h;subst h;simp
 |x::l,h=>by
  rcases nA.mp h with h|h
  .show(Qq h).cons x
  .obtain⟨s',h',rfl⟩:=LA.mp h;show(Qq h').cons_cons x
theorem zQp(h:yn m ps)(hf:kJ ps)(hK:K∈eY ps d):oJ ps K:=by
 have one:∀e e' S,S∈kP (IR ps e e')->oJ ps (GD ps d S):=λe e' S j=>by
  have s:=Qq j;refine(bS h d (λn z=>zWd h<|s.subset z) ?_).1;have:=s.length_le;rw[M5]at this;have:=hf e e';omega
 rcases lA.mp hK with rfl|hK
 .show(bS h d (λn z=>by simp at z;subst z;have:=h.n0;omega)<|by simp).1
 .obtain⟨e,_,hK⟩:=VC.mp hK;rcases nA.mp hK with hK|hK
  .obtain⟨S,j,rfl⟩:=LA.mp hK;show one _ _ S j
  .obtain⟨S,j,rfl⟩:=LA.mp hK;show one _ _ S j
structure PS(m:Int)(ps:List Pl)(d:Int):Prop where
 dn:yn m ps
 few:kJ ps
 d0:0<=d
 d1:d<m
def Bp(ps:List Pl)(d:Int)(Ks:List (List Int))(K:List Int):List (List Int):=(yi ps d K).foldl (λKs w=>CI Ks<|MQ ps d K w) Ks
def vS(ps:List Pl)(d:Int)(K:List Int):Prop:=PL ps d K=false\/(turns ps d K≠[]/\∃n∈K,turns ps d (GD ps d [n])=[])
structure jW(ps:List Pl)(d:Int)(vs:List Int)(Ks:List (List Int))(DD:List St):Prop where
 nd:Ks.Nodup
 pl:∀K∈Ks,K∈eY ps d
 st:∀K∈Ks,oJ ps K
 le:DD.length<=Ks.length
 cl:∀K∈Ks.take DD.length,Bo ps d Ks K/\PL ps d K=true/\(turns ps d K=[]\/∀n∈K,n∉vs)
 eq:DD=(Ks.take DD.length).map (EJ ps d Ks)
theorem jW.len{ps:List Pl}{d:Int}{vs:List Int}{Ks:List (List Int)}{DD:List St}(I:jW ps d vs Ks DD)(hf:kJ ps):Ks.length<=8388609:=vA (E5 I.nd I.pl)<|zLG hf d
theorem zWe{xs ys:List D}:qP [s0,s1,s2,.l xs,s4,.l ys,s6,s7,s8,s9,s10,s11,s12]>(decide<|ys.length<xs.length):=by
 exists 0,qP,WA
 congr 1
 show decide_eq_decide.mpr 01
theorem zOg{ps:List Pl}(h:PS m ps d){Ks:List (List Int)}{DD:List St}(I:jW ps d vs Ks DD)(hl:DD.length<Ks.length)(hv:∀n:Int,0<=n->n<(ps.length:Int)->(n∈vs↔turns ps d (GD ps d [n])=[]))(s6 s7 s8 s9 s10 s11 s12:Sl):
  (vS ps d Ks[DD.length]/\yT [!uB m ps,!.int d,.m<|tk vs,.l<|Ks.map jF,.o none<|.p<|.t<|yL Ks,.l<|DD.map oE,s6,s7,s8,s9,s10,s11,s12]>.ex 0) \/
  ¬ vS ps d Ks[DD.length] /\
  ∃r st SM WP pO jV hV Y Z,Ks++r=Bp ps d Ks Ks[DD.length]/\jW ps d vs (Ks++r) (DD++[st])/\yT [!uB m ps,!.int d,.m<|tk vs,.l<|Ks.map jF,.o none<|.p<|.t<|yL Ks,.l<|DD.map oE,s6,s7,s8,s9,s10,s11,s12] =
   some (.o<|.nx [!uB m ps,!.int d,.m<|tk vs,.l<|(Ks++r).map jF,.o none<|.p<|.t<|yL<|Ks++r,.l<|(DD++[st]).map oE,SM,WP,pO,jV,hV,Y,Z]):=by
 have d4:d<4:=by have:=h.dn.m1;have:=h.d1;omega
 have hK:Ks[DD.length]?>Ks[DD.length]:=by simp[hl]
 generalize Ks[DD.length]=K at hK|-;have mK:K∈Ks:=xA hK;have O:=I.st K mK;have lK:=O.len;have kl:=I.len h.few
 have i1:WA (.lst<|Ks.map jF) (.int (DD.length:Int))>jF K:=by
  have:¬ ((DD.length:Int)<0):=01
  have hg:Ks[DD.length]=K:=by rw[VA hl]at hK;show DB hK
  simp[WA,NF,VH,hl,hg]
 have mt:=zOS (m:=m) d O.inn 01;obtain⟨r,hr,mr⟩:=zQi h.d0 d4 K (turns ps d K) vs 01;have tl:=zOW ps d K;have ma:=zKB h.d0 d4 (turns ps d K) 01 λt ht=>(qM h.dn ht).few
 have rO:yT [!uB m ps,!.int d,.m<|tk vs,.l<|Ks.map jF,.o none<|.p<|.t<|yL Ks,.l<|DD.map oE,s6,s7,s8,s9,s10,s11,s12]=yT [!uB m ps,!.int d,.m<|tk vs,.l<|Ks.map jF,.o none<|.p<|.t<|yL Ks,.l<|DD.map oE,s6,s7,s8,s9,s10,s11,s12]:=rfl;unfold yT
 have q1:∀G:lB->Option fG,jH (oX<|qF 6<|b2 (gR 3) (b1 (gR 5) cH) WA) G [!uB m ps,!.int d,.m<|tk vs,.l<|Ks.map jF,.o none<|.p<|.t<|yL Ks,.l<|DD.map oE,s6,s7,s8,s9,s10,s11,s12]=G [!uB m ps,!.int d,.m<|tk vs,.l<|Ks.map jF,.o none<|.p<|.t<|yL Ks,.l<|DD.map oE,!jF K,s7,s8,s9,s10,s11,s12]:=λG=>
  GQ (lT (by exists 0,i1))
 have q2:∀G:lB->Option fG,jH (oX<|qF 7<|λρ=>((zC (gV 0)<|zC (gV 1)<|zC (gV 6) zN) ρ).bind yR) G [!uB m ps,!.int d,.m<|tk vs,.l<|Ks.map jF,.o none<|.p<|.t<|yL Ks,.l<|DD.map oE,!jF K,s7,s8,s9,s10,s11,s12]=G [!uB m ps,!.int d,.m<|tk vs,.l<|Ks.map jF,.o none<|.p<|.t<|yL Ks,.l<|DD.map oE,!jF K,!.lst ((turns ps d K).map KB),s8,s9,s10,s11,s12]:=λG=>
  GQ (lT (by exists 0,jF,mt))
 have e3:(Ro<|Td 2 (lU (gV 1)<|lU (gV 6)<|lU (gV 7) zN) zt) [!uB m ps,!.int d,.m<|tk vs,.l<|Ks.map jF,.o none<|.p<|.t<|yL Ks,.l<|DD.map oE,!jF K,!.lst ((turns ps d K).map KB),s8,s9,s10,s11,s12]=(some r:Option (Except Nat D)).map (λr=>match r with | .ok _=>.o (.nx [!uB m ps,!.int d,.m<|tk vs,.l<|Ks.map jF,.o none<|.p<|.t<|yL Ks,.l<|DD.map oE,!jF K,!.lst ((turns ps d K).map KB),s8,s9,s10,s11,s12]) | .error c=>.ex c):=by
  rw[<- mr];rfl
 rw[q1,q2];rcases hr with⟨rfl,nv⟩|⟨rfl,tn,n,S,KP⟩
 .rw[GQ e3];by_cases al:PL ps d K=true
  .right
   refine⟨λb=>?_,?_⟩
   .rcases b with b|⟨b,n,S,z⟩
    .rw[al]at b;cases b
    .show(nv.resolve_left b) n S ((hv n (O.inn n S).1 (O.inn n S).2).mpr z)
   have U:yH [.lst<|(turns ps d K).map KB,.int d]>(.ok<|HQ ps d K):=by
    rw[ma];unfold PL at al;unfold HQ Bh
    cases e:turns ps d K with
    |nil=>rfl
    |cons t ts=>rw[e]at al;simp only at al|-;rw[if_pos al]
   have qf:=zRu h.few O al;have nx:=λw j=>Qp h.dn h.few ⟨h.d0,h.d1⟩ O al w j
   have ap:=λw (j:w∈gJ (DJ ps d K))=>bS h.dn d (nx w j).2.1 (by have:=(nx w j).2.2;omega)
   have mn:=zT1 (ts:=turns ps d K) (by change(DJ ps d K).length<=1000;omega);have wl:=Qn<|DJ ps d K;have sl:(yi ps d K).length<=20:=by unfold yi;rw[W4];omega
   have so:=zOf (l:=gJ<|DJ ps d K) 01;obtain⟨J,Y,Z,p0,p1,p2,p3,p4⟩:=zHA (m:=m) (ps:=ps) (d:=d) (s2:=.m<|tk vs) (s5:=.l<|DD.map oE) (s6:=!jF K) (s7:=!.lst ((turns ps d K).map KB)) (s8:=!HQ ps d K) (qs:=DJ ps d K) 8388609 02 (eY ps d) (zLG h.few d) (λw j=>⟨(nx w j).1,(ap w j).2⟩) (yi ps d K) Ks [] s11 s12 (λw j=>qX.mp j) I.nd I.pl (by simp;omega);have ePr:([]++(yi ps d K).map λw=>(w,(EM (Ks++J) (GD ps d<|sel w<|DJ ps d K):Int)))=WM ps d (Ks++J) K:=by rw[lC];rfl
   rw[ePr,FC]at p4;refine⟨J,EJ ps d (Ks++J) K,!jF K,!.lst ((turns ps d K).map KB),!HQ ps d K,.o none<|.p<|.ml<|yh<|DJ ps d K,.l<|(WM ps d (Ks++J) K).map uE,Y,Z,p0,?_,?_⟩
   .have cK:Bo ps d (Ks++J) K:=p3
    have V8:(Ks++J).take (DD++[EJ ps d (Ks++J) K]).length=Ks.take DD.length++[K]:=by
     rw[IA,eB,List.take_append_of_le_length<|01,List.take_succ,hK];rfl
    refine⟨p1,p2,λK' RJ=>?_,by simp;omega,λK' RJ=>?_,?_⟩
    .rcases nA.mp RJ with RJ | RJ
     .show I.st K' RJ
     .show zQp h.dn h.few<|p2 K'<|nA.mpr<|.inr RJ
    .rw[V8]at RJ;rcases nA.mp RJ with RJ | RJ
     .obtain⟨c1,c2⟩:=I.cl K' RJ;show⟨λw j=>nA.mpr<|.inl<|c1 w j,c2⟩
     .simp at RJ;subst RJ;show⟨cK,al,nv⟩
    .rw[V8,UA,pP]
     congr 1
     rw[show(Ks.take DD.length).map (EJ ps d<|Ks++J)=(Ks.take DD.length).map (EJ ps d Ks) from nB λK' RJ=>zQm (I.cl K' RJ).1 J];show I.eq
   .refine(GQ (ρ':=[!uB m ps,!.int d,.m<|tk vs,.l<|Ks.map jF,.o none<|.p<|.t<|yL Ks,.l<|DD.map oE,!jF K,!.lst ((turns ps d K).map KB),!HQ ps d K,s9,s10,s11,s12]) ?_).trans ?_
    .exists 0,Bv,U
    .refine lT ?_;refine(zl (ρ':=[!uB m ps,!.int d,.m<|tk vs,.l<|Ks.map jF,.o none<|.p<|.t<|yL Ks,.l<|DD.map oE,!jF K,!.lst ((turns ps d K).map KB),!HQ ps d K,.o none<|.p<|.ml<|yh<|DJ ps d K,s10,s11,s12]) ?_).trans ?_
     .exists 0,eQ,mn
      rfl
     .refine(zl (ρ':=[!uB m ps,!.int d,.m<|tk vs,.l<|Ks.map jF,.o none<|.p<|.t<|yL Ks,.l<|DD.map oE,!jF K,!.lst ((turns ps d K).map KB),!HQ ps d K,.o none<|.p<|.ml<|yh<|DJ ps d K,.l [],s11,s12]) rfl).trans ?_;refine(zl<|(TR (ds:=(yi ps d K).map D.str) ?_).trans p4).trans ?_
      .exists 0,Ru,iR,zQo,so,yi
      .show zT5 01
  .left
   refine⟨.inl ‹al›,Bn ?_⟩
   have U:yH [.lst<|(turns ps d K).map KB,.int d]>.error 0:=by
    rw[ma];unfold PL at al;unfold Bh
    cases e:turns ps d K with
    |nil=>rw[e]at al;show absurd rfl al
    |cons t ts=>rw[e]at al;simp only at al|-;rw[if_neg al]
   exists 0,Bv,U
 .left;show⟨.inr ⟨tn,n,S,(hv n (O.inn n S).1 (O.inn n S).2).mp KP⟩,Bn e3⟩
theorem zOh{c:iF}{F:lB->Option fG}(h:c ρ>true)(e:F ρ>(.o<|.nx ρ')):XN c F (k+1) ρ=XN c F k ρ':=by
 dsimp[XN,h,dA,if_true,e]
theorem zOi{c:iF}{F:lB->Option fG}(h:c ρ>true)(e:F ρ>.ex n):XN c F (k+1) ρ>.ex n:=by
 dsimp[XN,h,dA,if_true,e]
theorem zMF{c:iF}{F:lB->Option fG}(h:c ρ>false):XN c F (k+1) ρ>(.o<|.nx ρ):=by
 simp[XN,h]
def JN(ps:List Pl)(d:Int):Nat->Nat->List (List Int)->Option (List<|List Int)
 |0,_,_=>none
 |k+1,i,Ks=>match Ks[i]? with
  |none=>some Ks
  |some K=>open Classical in if vS ps d K then none else JN ps d k (i+1) (Bp ps d Ks K)
theorem zJA{ps:List Pl}(h:PS m ps d)(vs:List Int)(hv:∀n:Int,0<=n->n<(ps.length:Int)->(n∈vs↔turns ps d (GD ps d [n])=[])):∀(n:Nat)(Ks:List (List Int))(DD:List St)(s6 s7 s8 s9 s10 s11 s12:Sl),jW ps d vs Ks DD->8388609<n+DD.length ->
  (JN ps d n DD.length Ks=none/\XN qP yT n [!uB m ps,!.int d,.m<|tk vs,.l<|Ks.map jF,.o none<|.p<|.t<|yL Ks,.l<|DD.map oE,s6,s7,s8,s9,s10,s11,s12]>.ex 0) \/
  ∃r aQ U WP pO jV hV O S,JN ps d n DD.length Ks>Ks++r/\jW ps d vs (Ks++r) aQ/\aQ.length=(Ks++r).length/\XN qP yT n [!uB m ps,!.int d,.m<|tk vs,.l<|Ks.map jF,.o none<|.p<|.t<|yL Ks,.l<|DD.map oE,s6,s7,s8,s9,s10,s11,s12] =
   some (.o<|.nx [!uB m ps,!.int d,.m<|tk vs,.l<|(Ks++r).map jF,.o none<|.p<|.t<|yL<|Ks++r,.l<|aQ.map oE,U,WP,pO,jV,hV,O,S])
 |0,Ks,DD,s6,s7,s8,s9,s10,s11,s12,I,hn=>by have:=I.len h.few;have:=I.le;omega
 |n+1,Ks,DD,s6,s7,s8,s9,s10,s11,s12,I,hn=>by
  have tp:=zWe (s0:=!uB m ps) (s1:=!.int d) (s2:=.m<|tk vs) (s4:=.o none<|.p<|.t<|yL Ks) (s6:=s6) (s7:=s7) (s8:=s8) (s9:=s9) (s10:=s10) (s11:=s11) (s12:=s12) (xs:=Ks.map jF) (ys:=DD.map oE);rw[iA,iA]at tp;by_cases j:DD.length<Ks.length
  .rw[decide_eq_true j]at tp;have pn:JN ps d (n+1) DD.length Ks=open Classical in if vS ps d Ks[DD.length] then none else JN ps d n (DD.length+1) (Bp ps d Ks Ks[DD.length]):=by rw[JN,VA j]
   rcases zOg h (vs:=vs) I j hv s6 s7 s8 s9 s10 s11 s12 with⟨b,e⟩|⟨b,r,st,a6,a7,a8,a9,Y7,Z7,c8,ea,z,e⟩
   .left;show⟨by rw[pn,if_pos b],zOi tp e⟩
   .rw[pn,if_neg b,<- ea,zOh tp e];rcases zJA h vs hv n (Ks++r) (DD++[st]) a6 a7 a8 a9 Y7 Z7 c8 z (by simp;omega) with e' | ⟨r',aQ,b6,b7,b8,b9,Eb,Ec,Ed,J0,J,jl,e'⟩
    .left;rw[IA,eB]at e';show e'
    .right
     rw[IA,eB]at J0;rw[WB]at J0 J jl e';show⟨r++r',aQ,b6,b7,b8,b9,Eb,Ec,Ed,J0,J,jl,e'⟩
  .rw[decide_eq_false j]at tp
   right
   refine⟨[],DD,s6,s7,s8,s9,s10,s11,s12,by rw[JN,UB<|01,oB],‹I›,by have:=I.le;simp;omega,?_⟩;rw[zMF tp,oB]
structure IsPart(ps:List Pl)(d:Int)(Ks:List (List Int)):Prop where
 nd:Ks.Nodup
 ze:Ks[0]?>GD ps d [0]
 st:∀K∈Ks,oJ ps K
 cl:∀K∈Ks,Bo ps d Ks K
 al:∀K∈Ks,PL ps d K=true
 nv:∀K∈Ks,turns ps d K≠[]->∀x∈K,turns ps d (GD ps d [x])≠[]
 le:Ks.length<=8388609
def P6(ps:List Pl)(d:Int)(Ks:List (List Int)):D:=.tup<|(Ks.map<|EJ ps d Ks).map oE
theorem zT7{N:List Str}{F:lB->Option fG}{ds:List D}(h:ds.map Sl.v++pA (N.length-ds.length) .un=ρ):cW N F ds=(F ρ).bind λo=>match o with
  |.o (.rt d)=>some<|.ok d
  |.o (.nx _)=>some<|.ok .non
  |.ex c=>some<|.error c
  |_=>none:=by subst h;rfl
theorem J5{fl:dD}{F:List D->Option Sl}{ρ:lB}(h1:fl ρ>ds)(h2:F ds>s):eQ i fl F ρ>(.nx<|ρ.set i s):=by
 unfold eQ;rw[h1,dA,h2,wA]
theorem zWf(h:PS m ps d)(N:Nat)(hN:8388609<N):
  (JN ps d N 0 [GD ps d [0]]=none/\(jH (oX<|eQ 2 (zC (gV 0)<|zC (gV 1) zN) VS)<|jH (oX<|AJ 3<|zC (λρ=>((zC (gV 0)<|zC (gV 1)<|zC (λρ=>((zC (zM 0) zN) ρ).map D.tup) zN) ρ).bind qi) zN)<|jH (oX<|JX 4 (b2 (gR 3) (zM 0) WA)<|zM 0)<|jH (oX<|AJ 5 zN)<|jH (R5 N qP yT)<|oX<|wF<|b1 (gR 5) tK) [!uB m ps,!.int d,.un,.un,.un,.un,.un,.un,.un,.un,.un,.un,.un]>.ex 0) \/
  ∃Ks,JN ps d N 0 [GD ps d [0]]>Ks/\IsPart ps d Ks/\(jH (oX<|eQ 2 (zC (gV 0)<|zC (gV 1) zN) VS)<|jH (oX<|AJ 3<|zC (λρ=>((zC (gV 0)<|zC (gV 1)<|zC (λρ=>((zC (zM 0) zN) ρ).map D.tup) zN) ρ).bind qi) zN)<|jH (oX<|JX 4 (b2 (gR 3) (zM 0) WA)<|zM 0)<|jH (oX<|AJ 5 zN)<|jH (R5 N qP yT)<|oX<|wF<|b1 (gR 5) tK) [!uB m ps,!.int d,.un,.un,.un,.un,.un,.un,.un,.un,.un,.un,.un]>(.o<|.rt<|P6 ps d Ks):=by
 obtain⟨vs,U,mv⟩:=zWa h.dn d;obtain⟨s0,a0⟩:=bS h.dn d (S:=[0]) (λn Y=>by simp at Y;subst Y;have:=h.dn.n0;omega) (by simp);dsimp[eA,FC]at a0;have kz:=zOc<|GD ps d [0];have Z:jW ps d vs [GD ps d [0]] []:=⟨by simp,λK hK=>by simp at hK;subst hK;show gA,λK hK=>by simp at hK;subst hK;show s0,by simp,by simp,by simp⟩
 have pre:∀G:lB->Option fG,(jH (oX<|eQ 2 (zC (gV 0)<|zC (gV 1) zN) VS)<|jH (oX<|AJ 3<|zC (λρ=>((zC (gV 0)<|zC (gV 1)<|zC (λρ=>((zC (zM 0) zN) ρ).map D.tup) zN) ρ).bind qi) zN)<|jH (oX<|JX 4 (b2 (gR 3) (zM 0) WA)<|zM 0)<|jH (oX<|AJ 5 zN) G) [!uB m ps,!.int d,.un,.un,.un,.un,.un,.un,.un,.un,.un,.un,.un] =
   G [!uB m ps,!.int d,.m<|tk vs,.l<|[GD ps d [0]].map jF,.o none<|.p<|.t<|yL [GD ps d [0]],.l<|([]:List St).map oE,.un,.un,.un,.un,.un,.un,.un]:=λG=>by
  refine(GQ (ρ':=[!uB m ps,!.int d,.m<|tk vs,.un,.un,.un,.un,.un,.un,.un,.un,.un,.un])<|lT ?_).trans ((GQ (ρ':=[!uB m ps,!.int d,.m<|tk vs,.l [jF<|GD ps d [0]],.un,.un,.un,.un,.un,.un,.un,.un,.un])<|lT ?_).trans<|(GQ (ρ':=[!uB m ps,!.int d,.m<|tk vs,.l [jF<|GD ps d [0]],.o none<|.p<|.t<|yL [GD ps d [0]],.un,.un,.un,.un,.un,.un,.un,.un])<|lT ?_).trans<|GQ<|lT rfl)
  .show J5 rfl mv
  .exists 0,a0
   rfl
  .have i0:WA (.lst [jF<|GD ps d [0]]) (.int 0)>(jF<|GD ps d [0]):=by dsimp[WA,FI]
   exists 0,JX,i0,kz
   rfl
 have lp:=zJA h vs U N [GD ps d [0]] [] .un .un .un .un .un .un .un Z ‹hN›;rw[pre];unfold R5;rcases lp with⟨O,e⟩|⟨r,DD,s6,s7,s8,s9,s10,s11,s12,O,I,hl,e⟩
 .left
  show⟨O,Bn e⟩
 .right
  have j:([GD ps d [0]]++r).take DD.length=[GD ps d [0]]++r:=by rw[hl];show gH
  refine⟨[GD ps d [0]]++r,O,⟨I.nd,rfl,I.st,λK hK=>(I.cl K (by rw[j];show hK)).1,λK hK=>(I.cl K (by rw[j];show hK)).2.1,λK hK ht x hx z=>((I.cl K (by rw[j];show hK)).2.2.resolve_left ht) x hx<|(U x ((I.st K hK).inn x hx).1 ((I.st K hK).inn x hx).2).mpr z,I.len h.few⟩,?_⟩;have es:=I.eq;rw[j]at es;rw[GQ e];change some (fG.o<|Out.rt<|D.tup<|DD.map oE)>(fG.o<|Out.rt<|D.tup<|(([GD ps d [0]]++r).map<|EJ ps d<|[GD ps d [0]]++r).map oE);rw[<- es]
theorem Po(h:PS m ps d):(JN ps d 20000000 0 [GD ps d [0]]=none/\za [uB m ps,.int d]>.error 0)\/∃Ks,JN ps d 20000000 0 [GD ps d [0]]>Ks/\IsPart ps d Ks/\za [uB m ps,.int d]>(.ok<|P6 ps d Ks):=by
 have q:=zWf h 20000000 02;unfold za;rw[zT7 (ρ:=[!uB m ps,!.int d,.un,.un,.un,.un,.un,.un,.un,.un,.un,.un,.un]) rfl];unfold Nl;rcases q with⟨j,e⟩|⟨Ks,j,hk,e⟩
 .left;rw[e];show⟨j,rfl⟩
 .right;refine⟨Ks,j,hk,?_⟩;rw[e];rfl
theorem zT8(h:PS m ps d):za [uB m ps,.int d]>.error 0\/∃Ks,IsPart ps d Ks/\za [uB m ps,.int d]>(.ok<|P6 ps d Ks):=
 (Po h).imp (·.2) λ⟨Ks,_,hk⟩=>⟨Ks,hk⟩
noncomputable abbrev Mz:List Str:=["thing"]
def Na:aC:=(wF<|jS (b1 (gR 0)<|Cr "int")<|Y3<|b1 (gR 0)<|Cr "bool")
def iX(ds:List D):Option D:=AI Mz Na ds
def L5(C:Addr):lB->Option (Except Nat D):=(λρ=>((zC (gV 1)<|zC (gV 2) zN) ρ).bind za)
def rX(C:Addr):dC:=(zM 0)
noncomputable abbrev Sf:List Str:=["self","dance"]
def IX(C:Addr):lB->Option fG:=(jH (x6 C 0 "parts"<|BX 1 (UJ<|zC (b2 (gR 1) (zM 0) WA) zN) (gN 2)<|L5 C)<|oX<|sq (λρ=>((zK 1 (iL<|λρ=>(bN C 0 "parts" ρ).bind AU) (gN 2) (λ_=>some true)<|rX C) ρ).bind λxs=>ZN C 0 "at" (.f<|.l xs) ρ)<|sq (λρ=>ZN C 0 "rows" (.f<|.tl []) ρ)<|λρ=>(zN ρ).bind λxs=>ZN C 0 "past" (.f<|.l xs) ρ)
def JV(C:Addr)(x:Ob)(ds:List D):Option (Except Nat Ob):=BO λa=>zV5 Sf (IX C) a x ds
noncomputable abbrev Sy:List Str:=["self","one","other"]
def Cp(C:Addr):aC:=(wF<|b1 (DR C 0 "rows" (λρ=>((zC (gV 1)<|zC (gV 2) zN) ρ).map D.tup)<|λρ=>(zN ρ).map D.tup) tK)
def XX(C:Addr)(x:Ob)(ds:List D):Option D:=BO λa=>GT Sy (Cp C) a x ds
noncomputable abbrev Nc:List Str:=["self","dancer"]
def Nd(C:Addr):aC:=(wF<|b2 (b2 (λρ=>(bN C 0 "parts" ρ).bind OW) (gR 1) WA) (b2 (λρ=>(bN C 0 "at" ρ).bind OW) (gR 1) WA) WA)
def qC(C:Addr)(x:Ob)(ds:List D):Option D:=BO λa=>GT Nc (Nd C) a x ds
def A9(C:Addr):dC:=(λρ=>((zC (λ_=>some<|D.str "tell")<|zC (gV 1)<|zC (b2 (gR 2) (zM 1) WA)<|zC (gV 4) zN) ρ).map D.tup)
def B9(C:Addr):iF:=(bB<|b2 (λρ=>((zC (gV 4) zN) ρ).map D.tup) (gR 3) AE)
def C9(C:Addr):dC:=(λρ=>((zC (λ_=>some<|D.str "hear")<|zC (b2 (gR 2) (zM 1) WA)<|zC (gV 1)<|zC (gV 4) zN) ρ).map D.tup)
noncomputable abbrev Nf:List Str:=["self","dancer","state","first"]
def Q9(C:Addr):aC:=(sq (qF 2<|WJ C "state_of" 0 (zC (gV 1) zN)<|qC C)<|sq (nG (bB<|b2 (b2 (gR 2) (zM 0) WA) (λ_=>some<|D.str "tells") AE) (vT<|zK 2 (iT<|b2 (gR 2) (zM 2) WA) (gT 2<|UD (gN 4)<|UD (gN 5) vF) (λ_=>some true)<|A9 C)<|λρ=>some<|Out.nx ρ)<|sq (nG (bB<|b2 (b2 (gR 2) (zM 0) WA) (λ_=>some<|D.str "hears") AE) (sq (qF 3<|IK (WJ C "row" 0 (zC (b2 (gR 2) (zM 1) WA)<|zC (gV 1) zN)<|XX C) (λ_=>some none) (oI<|zM 1) VJ)<|vT<|zK 2 (iT<|b2 (gR 2) (zM 2) WA) (gT 2<|UD (gN 4)<|UD (gN 5) vF) (B9 C)<|C9 C)<|λρ=>some<|Out.nx ρ)<|vT zN)
def S4(C:Addr)(x:Ob)(ds:List D):Option (List D):=BO λa=>zV4 Nf (Q9 C) a x ds
def Ac(C:Addr):aC:=(X6 1<|Bg C "moves_of" 0 (zC (gV 2) zN)<|S4 C)
noncomputable abbrev Qr:List Str:=["self","found","dancer"]
def Bf(C:Addr):aC:=(sq (AJ 1 zN)<|sq (zn (UJ<|zC (b1 (λρ=>(bN C 0 "parts" ρ).bind OW) cH) zN) (gN 2)<|Ac C)<|wF<|b1 (gR 1) tK)
def tO(C:Addr)(x:Ob)(ds:List D):Option D:=BO λa=>GT Qr (Bf C) a x ds
noncomputable abbrev Ll:List Str:=["self","move"]
def m9(C:Addr):aC:=(wF<|jS (b2 (gV 1) (WJ C "moves" 0 zN<|tO C) QM)<|jS (λρ=>((zC (b2 (gR 1) (zM 1) WA) zN) ρ).bind iX)<|λρ=>((zC (b2 (gR 1) (zM 2) WA) zN) ρ).bind iX)
def qD(C:Addr)(x:Ob)(ds:List D):Option D:=BO λa=>GT Ll (m9 C) a x ds
noncomputable abbrev Qs:List Str:=["self","dancer","word"]
def O5(C:Addr):aC:=(Sz C 0 "at" (gV 1)<|i8 (b2 (WJ C "state_of" 0 (zC (gV 1) zN)<|qC C) (zM 2) WA)<|gV 2)
def ZS(C:Addr)(x:Ob)(ds:List D):Option Ob:=BO λa=>fV Qs (O5 C) a x ds
noncomputable abbrev cV:List Str:=["self","move","pair"]
def i7(C:Addr):aC:=(sq (nG (ZX<|QQ<|WJ C "can_be_done" 0 (zC (gV 1) zN)<|qD C) (λ_=>none)<|λρ=>some<|Out.nx ρ)<|sq (qF 2<|λρ=>((zC (b2 (gR 1) (zM 1) WA)<|zC (b2 (gR 1) (zM 2) WA) zN) ρ).map D.tup)<|sq (nG (bB<|b2 (b2 (gR 1) (zM 0) WA) (λ_=>some<|D.str "tell") AE) (sq (G6 C 0 "rows" (gV 2)<|b2 (gR 1) (zM 3) WA)<|KQ C "go_on" 0 (zC (b2 (gR 1) (zM 1) WA)<|zC (b2 (gR 1) (zM 3) WA) zN)<|ZS C)<|sq (E6 C 0 "rows"<|gV 2)<|KQ C "go_on" 0 (zC (b2 (gR 1) (zM 2) WA)<|zC (b2 (gR 1) (zM 3) WA) zN)<|ZS C)<|Bx C 0 "past"<|gV 1)
def pW(C:Addr)(x:Ob)(ds:List D):Option Ob:=BO λa=>fV cV (i7 C) a x ds
noncomputable abbrev Ng:List Str:=["_law_dance_here","_law_hall_here"]
def R9(C:Addr):aC:=(sq (qF 1<|λ_=>some D.non)<|sq (AX C 1 (zC (gV 0) zN) (JV C) 0<|qF 1<|λ_=>some D.non)<|Rv 1)
def yJ(C:Addr)(ds:List D):Option Sl:=bY Ng (R9 C) ds
noncomputable def kv(q:Str×Int):kC×D:=(.inr q.1,.int q.2)
theorem zLN:∀(ch:List (Str×Int)),HX (ch.map uE)>ch.map kv
 | []=>rfl
 |q::ch=>by simp[HX,uE,uK,zLN ch,kv]
theorem zQr(h:∀q∈kvs,q.1≠k):ZM kvs k v=kvs++[(k,v)]:=by
 unfold ZM;rw[if_neg];dsimp[eE,decide_eq_true_eq,not_exists,not_and];show h
theorem zLO:∀(ch:List (Str×Int))(acc:List (kC×D)),(ch.map (·.1)).Pairwise (·≠·)->(∀q∈ch,∀a∈acc,a.1≠(kv q).1)->(ch.map kv).foldl (λacc p=>ZM acc p.1 p.2) acc=acc++ch.map kv
 | [],acc,_,_=>by simp
 |q::ch,acc,h,k=>by
  rw[eA]at h;obtain⟨h1,h2⟩:=MA.mp h;dsimp[eA,JC];rw[zQr<|k q gA,zLO ch _ h2]
  .simp
  .intro q' j a ha;rcases nA.mp ha with ha|ha
   .show k q' (bA _ j) a ha
   .simp at ha;subst ha;intro e;have:q.1=q'.1:=by simpa[kv] using e
    show h1 q'.1 (IB j) this
theorem zUB{ch:List (Str×Int)}(h:FN (ch.map (·.1)))(j:ch.length<=1000):WX (.tup<|ch.map uE)>ch.map kv:=by
 unfold WX;dsimp[iA];rw[if_pos<|01,zLN];dsimp[wA];rw[zLO ch [] (D7 (λh=>h.ne) h)<|by simp];simp
theorem zRv(w:Str):∀(ch:List (Str×Int)),VM (ch.map kv) (.inr w)=((ch.find? λq=>decide<|q.1=w).map (·.2)).map D.int
 | []=>rfl
 |q::ch=>by
  have ih:=zRv w ch;unfold VM at ih|-;dsimp[eA,iB];by_cases e:q.1=w
  .simp[kv,e]
  .have e':¬ (MD q.1:kC)=MD w:=λz=>e ‹z›
   dsimp[kv,e,e',decide_false];show ih
structure Mv where
 t:Bool
 a:Int
 b:Int
 w:Str
deriving DecidableEq
noncomputable def NQ(t:Bool):Str:=if t then "tell" else "hear"
def EC(v:Mv):D:=.tup [.str<|NQ v.t,.int v.a,.int v.b,.str v.w]
structure Hl where
 P:List (List St)
 at':List Int
 R:List ((Int×Int)×List Str)
 past:List Mv
noncomputable def KL(k:Int×Int):List kC:=[.inl k.1,.inl k.2]
def mI(R:List ((Int×Int)×List Str)):List (List kC×List D):=R.map λq=>(KL q.1,q.2.map D.str)
def nE(p:List St):D:=.tup<|p.map oE
def vC(C:Addr)(h:Hl):Ob:=.ins C [("parts",!.lst (h.P.map nE)),("at",.f<|.l<|h.at'.map D.int),("rows",.f<|.tl<|mI h.R),("past",.f<|.l<|h.past.map EC)]
theorem vn:(fA "at" == fA "parts")=false:=by decide +kernel
theorem kr:(fA "rows" == fA "parts")=false:=by decide +kernel
theorem kx:(fA "past" == fA "parts")=false:=by decide +kernel
theorem zHC:(fA "rows" == fA "at")=false:=by decide +kernel
theorem zHD:(fA "past" == fA "at")=false:=by decide +kernel
theorem vk:(fA "past" == fA "rows")=false:=by decide +kernel
theorem zKJ:(fA "parts" == fA "at")=false:=by decide +kernel
theorem zHz:(fA "parts" == fA "rows")=false:=by decide +kernel
theorem zH0:(fA "parts" == fA "past")=false:=by decide +kernel
theorem zMH:(fA "at" == fA "rows")=false:=by decide +kernel
theorem zMI:(fA "at" == fA "past")=false:=by decide +kernel
theorem zJB:(fA "rows" == fA "past")=false:=by decide +kernel
theorem zJC(C:Addr)(h:Hl):YN C "parts" (vC C h)>(!.lst (h.P.map nE)):=by
 dsimp[YN,vC,if_true,YA,beq_self_eq_true]
theorem zRw(C:Addr)(h:Hl):YN C "at" (vC C h)>(.f<|.l<|h.at'.map D.int):=by
 dsimp[YN,vC,if_true,YA,beq_self_eq_true,vn]
theorem zLP(C:Addr)(h:Hl):YN C "rows" (vC C h)>(.f<|.tl<|mI h.R):=by
 dsimp[YN,vC,if_true,YA,beq_self_eq_true,kr,zHC]
theorem zQs(C:Addr)(h:Hl):YN C "past" (vC C h)>(.f<|.l<|h.past.map EC):=by
 dsimp[YN,vC,if_true,YA,beq_self_eq_true,kx,zHD,vk]
theorem LV(C:Addr)(h:Hl)(m:Str)(h1:(m==fA "parts")=false)(h2:(m==fA "at")=false)(h3:(m==fA "rows")=false)(j:(m==fA "past")=false):DM C m (vC C h)=true:=by
 dsimp[DM,vC,decide_true,YA,h1,h2,h3,j,JH,Option.isNone_none,mM]
theorem vp(C:Addr)(h:Hl):DM C "state_of" (vC C h)=true:=LV C h _ (by decide +kernel) (by decide +kernel) (by decide +kernel) (by decide +kernel)
theorem zWh(C:Addr)(h:Hl):DM C "row" (vC C h)=true:=LV C h _ (by decide +kernel) (by decide +kernel) (by decide +kernel) (by decide +kernel)
theorem zKK(C:Addr)(h:Hl):DM C "moves_of" (vC C h)=true:=LV C h _ (by decide +kernel) (by decide +kernel) (by decide +kernel) (by decide +kernel)
theorem Ol(C:Addr)(h:Hl):DM C "moves" (vC C h)=true:=LV C h _ (by decide +kernel) (by decide +kernel) (by decide +kernel) (by decide +kernel)
theorem zWi(C:Addr)(h:Hl):DM C "can_be_done" (vC C h)=true:=LV C h _ (by decide +kernel) (by decide +kernel) (by decide +kernel) (by decide +kernel)
theorem zWj(C:Addr)(h:Hl):DM C "do" (vC C h)=true:=LV C h _ (by decide +kernel) (by decide +kernel) (by decide +kernel) (by decide +kernel)
theorem zLQ(C:Addr)(h:Hl):DM C "go_on" (vC C h)=true:=LV C h _ (by decide +kernel) (by decide +kernel) (by decide +kernel) (by decide +kernel)
structure xS(n:Nat)(o:Int)(prs:List (Str×Int)):Prop where
 few:prs.length<=20
 rs:FN (prs.map (·.1))
 wd:∀q∈prs,eM q.1
 nx:∀q∈prs,0<=q.2/\q.2<(n:Int)
def aR(n:Nat):St->Prop
 |.act _ o prs=>xS n o prs
 |_=>True
structure HOk(k:Nat)(h:Hl):Prop where
 len:h.at'.length=h.P.length
 m4:h.P.length<=4
 inn:∀(i:Nat)(p:List St)(n:Int),h.P[i]?>p->h.at'[i]?>n->0<=n/\n<(p.length:Int)
 st:∀p∈h.P,∀s∈p,aR p.length s
 rn:h.R.length<=k
 rl:∀q∈h.R,q.2.length<=k
 pl:h.past.length<=k
noncomputable def HM(h:Hl)(i:Nat):Option St:=(h.P[i]?).bind λp=>(h.at'[i]?).bind λn=>p[n.toNat]?
theorem wX{h:Hl}(H:HOk k h)(hi:i<h.P.length):∃p n s,h.P[i]?>p/\h.at'[i]?>n/\p[n.toNat]?>s/\HM h i>s/\(0<=n/\n<(p.length:Int))/\aR p.length s:=by
 have j:h.P[i]?>h.P[i]:=by simp[hi]
 have I:i<h.at'.length:=by rw[H.len];show hi
 have z:h.at'[i]?>h.at'[i]:=by simp[I]
 generalize h.P[i]=p at j;generalize h.at'[i]=n at z;have b:=H.inn i p n j z;have J:n.toNat<p.length:=01
 have e3:p[n.toNat]?>p[n.toNat]:=by simp[J]
 refine⟨p,n,p[n.toNat],j,z,e3,by simp[HM,j,z,e3],b,H.st p (xA j) _<|AD _⟩
theorem zOl(H:HOk k h)(C:Addr)(hs:HM h i>s):qC C (vC C h) [.int i]>oE s:=by
 refine ZO λa=>?_
 obtain⟨p,j,hs⟩:=aA.mp hs;obtain⟨n,z,e3⟩:=aA.mp hs;have b:=H.inn i p n j z;have O:WA (.lst<|h.P.map nE) (.int i)>nE p:=jT (by simp[j]);have i2:WA (.lst<|h.at'.map D.int) (.int i)>.int n:=jT (by simp[z])
 have i3:WA (nE p) (.int n)>oE s:=by
  have:=jT (xs:=p.map oE) (i:=n.toNat) (x:=oE s) (by simp[e3]);rw[show((n.toNat:Nat):Int)=n by omega]at this;show this
 have I:=zJC C h;have J:=zRw C h
 exists 0,GT,Nd,bN,dP,OW,I,J,O,i2,i3
noncomputable def YJ(h:Hl)(a b:Int):List Str:=((h.R.find? λq=>decide<|q.1=(a,b)).map (·.2)).getD []
theorem zRx:KL k=KL k'↔k=k':=by
 obtain⟨a,b⟩:=k;obtain⟨j,b'⟩:=k';simp[KL]
theorem Bq(k:Int×Int):∀R:List ((Int×Int)×List Str),vH (mI R) (KL k)=((R.find? λq=>decide<|q.1=k).map (·.2)).map (uJ D.str)
 | []=>rfl
 |q::R=>by
  have ih:=Bq k R;unfold vH mI at ih|-;rw[eA,iB,iB];by_cases e:q.1=k
  .simp[e]
  .have j:¬ KL q.1=KL k:=λz=>e (zRx.mp z)
   dsimp[j,e,decide_false];show ih
theorem zUC(C:Addr)(h:Hl)(a b:Int):XX C (vC C h) [.int a,.int b]>(.tup<|(YJ h a b).map D.str):=by
 refine ZO λad=>?_
 have j:=zLP C h;have g:=Bq (a,b) h.R;have z:jQ (.tup [.int a,.int b])>KL (a,b):=rfl;unfold YJ
 cases e:h.R.find? λq=>decide (q.1=(a,b)) with
 |none=>
  rw[e]at g
  exists 0,GT,Cp,DR,bN,dP,j,z,g,wJ
 |some q=>
  rw[e]at g
  exists 0,GT,Cp,DR,bN,dP,j,z,g,GG
theorem EV{fl:dD}{F:Ob->List D->Option D}(h1:dP ρ i>x)(h2:DM C m x=true)(h3:fl ρ>ds)(j:F x ds>r):WJ C m i fl F ρ>r:=by
 unfold WJ;rw[h1,dA,if_pos h2,h3,dA,j]
theorem zOm{fl:dD}{F:Ob->List D->Option (List D)}(h1:dP ρ i>x)(h2:DM C m x=true)(h3:fl ρ>ds)(j:F x ds>r):Bg C m i fl F ρ>r:=by
 unfold Bg;rw[h1,dA,if_pos h2,h3,dA,j]
def mvsOf(h:Hl)(i:Nat):List Mv:=match HM h i with
 |some (.act true o prs)=>prs.map λq=>⟨true,i,o,q.1⟩
 |some (.act false o prs)=>(prs.filter λq=>decide<|[q.1]=(YJ h o i).take 1).map λq=>⟨false,o,i,q.1⟩
 |_=>[]
theorem Y2(t:Bool)(o:Int)(prs:List (Str×Int)):WA (oE<|.act t o prs) (.int 0)>(.str<|if t then "tells" else "hears"):=by dsimp[oE,WA,FI]
theorem Tr(t:Bool)(o:Int)(prs:List (Str×Int)):WA (oE<|.act t o prs) (.int 1)>.int o:=by dsimp[oE,WA,sN]
theorem zWk(t:Bool)(o:Int)(prs:List (Str×Int)):WA (oE<|.act t o prs) (.int 2)>(.tup<|prs.map uE):=by dsimp[oE,WA,at2]
theorem RV(a b:Str):AE (.str a) (.str b)>(.bl<|a==b):=by unfold AE;rw[if_pos<|by simp[mG]];unfold CD;rfl
theorem Je:((fA "rests" : Str)==fA "tells")=false:=by decide +kernel
theorem Jd:((fA "rests" : Str)==fA "hears")=false:=by decide +kernel
theorem zMJ(l:List Str):zw (l.map D.str) none (some 1)=(l.take 1).map D.str:=by
 cases l with
 |nil=>rfl
 |cons a l=>
  have:¬ ((1:Int)<0):=02
  simp[zw,HT.QD]
theorem zWl(w:Str)(l:List Str):AE (.tup [.str w]) (.tup<|(l.take 1).map D.str)>(.bl<|decide<|[w]=l.take 1):=by
 have:=Pg [w]<|l.take 1;unfold AE;rw[if_pos<|by simp[mG,UH]];unfold CD;rw[show[D.str w]=[w].map D.str from rfl,this]
theorem zOn(C:Addr)(i:Nat)(o:Int)(prs:List (Str×Int))(x s3:Sl)(a:Addr):zR (gT 2<|UD (gN 4)<|UD (gN 5) vF) (λ_=>some true) (A9 C) (prs.map uE) [x,!.int i,!oE (.act true o prs),s3,.un,.un]>(prs.map λq=>(⟨true,i,o,q.1⟩:Mv)).map EC:=by
 have j:=Tr true o prs
 have:=yQ (g:=gT 2<|UD (gN 4)<|UD (gN 5) vF) (p:=λ_=>some true) (f:=A9 C) (emb:=uE) (ρ:=[x,!.int i,!oE (.act true o prs),s3,.un,.un]) (λ_=>true) (λq=>EC ⟨true,i,o,q.1⟩) prs λq _=>by
  refine⟨[x,!.int i,!oE (.act true o prs),s3,!.str q.1,!.int q.2],rfl,rfl,λ_=>?_⟩
  exists 0,A9,EC,NQ,j
 rw[this,wD.mpr (by simp),JA];rfl
theorem zOo(C:Addr)(i:Nat)(o:Int)(prs:List (Str×Int))(l:List Str)(x:Sl):zR (gT 2<|UD (gN 4)<|UD (gN 5) vF) (B9 C) (C9 C) (prs.map uE) [x,!.int i,!oE (.act false o prs),!.tup ((l.take 1).map D.str),.un,.un]>((prs.filter λq=>decide<|[q.1]=l.take 1).map λq=>(⟨false,o,i,q.1⟩:Mv)).map EC:=by
 have j:=Tr false o prs
 have:=yQ (g:=gT 2<|UD (gN 4)<|UD (gN 5) vF) (p:=B9 C) (f:=C9 C) (emb:=uE) (ρ:=[x,!.int i,!oE (.act false o prs),!.tup ((l.take 1).map D.str),.un,.un]) (λq=>decide<|[q.1]=l.take 1) (λq=>EC ⟨false,o,i,q.1⟩) prs λq _=>by
  refine⟨[x,!.int i,!oE (.act false o prs),!.tup ((l.take 1).map D.str),!.str q.1,!.int q.2],rfl,?_,λ_=>?_⟩
  .have e:=zWl q.1 l
   exists B9,e,zR,gN,gT,UD,vF,zw,zi,EG
  .exists 0,C9,EC,NQ,j
 rw[this,JA];rfl
theorem zQt{h:Hl}(H:HOk k h)(C:Addr)(hi:i<h.P.length):S4 C (vC C h) [.int i]>(mvsOf h i).map EC:=by
 refine ZO λa=>?_
 obtain⟨p,n,s,e1,e2,e3,es,b,ok⟩:=wX H hi;have ms:=zOl H C es
 have rO:qF 2 (WJ C "state_of" 0 (zC (gV 1) zN)<|qC C) [.b a<|vC C h,!.int i,.un,.un]>.nx [.b a<|vC C h,!.int i,!oE s,.un]:=
  (ym<|EV rfl (vp C h) rfl ms).trans rfl
 change(Q9 C [.b a<|vC C h,!.int i,.un,.un]).bind MX=_;unfold Q9 mvsOf;rw[zl rO,es];generalize Z:vC C h=O at *
 cases s with
 |fin=>
  have j:WA (oE .fin) (.int 0)>.str "end":=by dsimp[oE,WA,FI]
  exists MX,vT,j,RV,E2,D2,zR,gN,gT,UD,vF,zw,zi,EG
 |rests=>
  have j:WA (oE .rests) (.int 0)>.str "rests":=by dsimp[oE,WA,FI]
  exists MX,vT,j,RV,Je,Jd,zR,gN,gT,UD,vF,zw,zi,EG
 |act t o prs=>
  have j:=Y2 t o prs;have i1:=Tr t o prs;have i2:=zWk t o prs;have I:prs.length<=1000000:=by have:=(ok:xS _ _ _).few;omega
  cases t with
  |true=>
   have cp:=zOn C i o prs (.b a O) .un a;dsimp[if_true]at j
   exists MX,vT,j,i2,RV,beq_self_eq_true,cp,I,zw,zi,EG
  |false=>
   have cp:=zOo C i o prs (YJ h o i)<|.b a O;have z:WA (oE<|.act false o prs) (.int 0)>.str "hears":=j
   have J:WJ C "row" 0 (zC (b2 (gR 2) (zM 1) WA)<|zC (gV 1) zN) (XX C) [.b a O,!.int i,!oE (.act false o prs),.un]>(.tup<|(YJ h o i).map D.str):=by
    subst Z;refine EV (ds:=[.int o,.int i]) rfl (zWh C h) ?_<|zUC C h o i
    exists 0,i1
   have U:=zMJ<|YJ h o i;generalize WJ C "row" 0 (zC (b2 (gR 2) (zM 1) WA)<|zC (gV 1) zN) (XX C)=f1 at J|-
   exists MX,vT,z,i2,RV,O2,beq_self_eq_true,J,U,cp,I,zi,EG
def mvs(h:Hl):List Mv:=(uA h.P.length).flatMap<|mvsOf h
theorem zOp(H:HOk k h)(i:Nat):(mvsOf h i).length<=20:=by
 by_cases hi:i<h.P.length
 .obtain⟨p,n,s,j,z,e3,es,b,ok⟩:=wX H hi;unfold mvsOf;rw[es]
  cases s with
  |fin=>simp
  |rests=>simp
  |act t o prs=>
   have:=(ok:xS _ _ _).few
   cases t with
   |true=>simpa using this
   |false=>dsimp[iA];show vA (QH ..) this
 .have:h.P[i]?=none:=by simp;omega
  simp[mvsOf,HM,this]
theorem zHE{h:Hl}(H:HOk k h)(C:Addr)(a:Addr):∀(is:List Nat)(acc:List Mv)(s2:Sl),(∀i∈is,i<h.P.length)->acc.length+20*is.length<=1000->∃ER,zi (gN 2) (Ac C) (is.map λ(i:Nat)=>D.int<|0+(i:Int)) [.b a<|vC C h,.l<|acc.map EC,s2]>.nx [.b a<|vC C h,.l<|(acc++is.flatMap (mvsOf h)).map EC,ER]
 | [],acc,s2,_,_=>⟨s2,by simp[zi]⟩
 |i::is,acc,s2,hi,hl=>by
  have z:=hi i gA;have l1:=zOp H i;rw[kA]at hl;obtain⟨ER,ih⟩:=zHE H C a is (acc++mvsOf h i) (!.int (0+(i:Int))) (λj I=>hi j<|bA _ I) (by rw[IA];omega);refine⟨ER,?_⟩;have J:=zQt H C z
  have st:Ac C [.b a<|vC C h,.l<|acc.map EC,!.int (0+(i:Int))]>.nx [.b a<|vC C h,.l<|(acc++mvsOf h i).map EC,!.int (0+(i:Int))]:=by
   have e:=zOm (C:=C) (m:="moves_of") (i:=0) (fl:=zC (gV 2) zN) (F:=S4 C) (ρ:=[.b a<|vC C h,.l<|acc.map EC,!.int (0+(i:Int))]) rfl (zKK C h) rfl (by rw[jE];show J);unfold Ac X6;have q:acc.length+(mvsOf h i).length<=1000000:=01
   dsimp[gL,CB,jB,dA,e,iA,if_pos q,XI,KD,UA]
  rw[eA,UR (ρ1:=[.b a<|vC C h,.l<|acc.map EC,!.int (0+(i:Int))]) rfl st,ih,dB,WB]
theorem Ts(H:HOk k h)(C:Addr):tO C (vC C h) []>(.tup<|(mvs h).map EC):=by
 refine ZO λa=>?_
 have m4:=H.m4;obtain⟨ER,e⟩:=zHE H C a (uA h.P.length) [] .un (λi hi=>wB.mp hi) (by simp;omega);rw[FC,lC]at e;have j:=zJC C h;change(Bf C [.b a<|vC C h,.un,.un]).bind _=_;unfold Bf;rw[zl (ρ':=[.b a<|vC C h,.l [],.un]) rfl,zl<|(TR<|FQ (n:=h.P.length) ?_<|01).trans e]
 .rfl
 .exists 0,bN,dP,OW,j
theorem zJE:∀a b:Bool,(NQ a==NQ b)=decide (a=b):=by
 have a:((fA "tell" : Str)==fA "hear")=false:=by decide +kernel
 have b:((fA "hear" : Str)==fA "tell")=false:=by decide +kernel
 intro x y;cases x<;>cases y<;>simp[NQ,a,b]
theorem bZ(u v:Mv):CD (EC u) (EC v)=decide (u=v):=by
 obtain⟨t,a,b,w⟩:=u;obtain⟨t',j,b',I⟩:=v;dsimp[EC,CD,pF,zJE,Be,nM,Mv.mk.injEq];by_cases h1:t=t'<;>by_cases h2:a=j<;>by_cases h3:b=b'<;>by_cases z:w=I<;>simp[h1,h2,h3,z]
theorem zWm(v:Mv):mG (EC v)<=20:=VB rfl
theorem YZ(v:Mv)(l:List Mv):QM (EC v) (.tup<|l.map EC)>(.bl<|decide<|v∈l):=by
 unfold QM;rw[if_pos<|zWm v];dsimp[List.any_map,Function.comp_def,bZ]
 congr 2
 by_cases h:v∈l
 .rw[decide_eq_true h,eE];show⟨v,h,by simp⟩
 .rw[decide_eq_false h,sJ];intro u j z;simp at z;show h<|z ▸ j
theorem zJF(n:Int):iX [.int n]>.bl true:=by
 exists 0,iX,Na,Cr,Y6,X8,WA
 rfl
theorem zWn(v:Mv):WA (EC v) (.int 0)>(.str<|NQ v.t):=by dsimp[EC,WA,FI]
theorem Tt(v:Mv):WA (EC v) (.int 1)>.int v.a:=by dsimp[EC,WA,sN]
theorem Tu(v:Mv):WA (EC v) (.int 2)>.int v.b:=by dsimp[EC,WA,at2]
theorem zWo(v:Mv):WA (EC v) (.int 3)>.str v.w:=by dsimp[EC,WA,OY]
theorem Q0(H:HOk k h)(C:Addr)(v:Mv):qD C (vC C h) [EC v]>(.bl<|decide<|v∈mvs h):=by
 refine ZO λa=>?_
 have j:WJ C "moves" 0 zN (tO C) [.b a<|vC C h,!EC v]>(.tup<|(mvs h).map EC):=EV rfl (Ol C h) rfl<|Ts H C;have im:=YZ v<|mvs h;have z:=Tt v;have i2:=Tu v;have w1:=zJF v.a;have I:=zJF v.b;change(m9 C [.b a<|vC C h,!EC v]).bind _=_;unfold m9;generalize WJ C "moves" 0 zN (tO C)=J at j|-;generalize S:vC C h=O at j|-
 cases e:decide (v∈mvs h) with
 |true=>
  rw[e]at im
  exists 0,j,im,z,i2,w1,I
 |false=>
  rw[e]at im
  exists 0,j,im,z,i2,w1,I
noncomputable abbrev uN(a b c d:Fl):List (Str×Fl):=[(fA "parts",a),(fA "at",b),(fA "rows",c),(fA "past",d)]
def nextOf(h:Hl)(i:Nat)(w:Str):Option Int:=match HM h i with
 |some (.act _ _ prs)=>(prs.find? λq=>decide<|q.1=w).map (·.2)
 |_=>none
theorem zUH(h:i<n):VH n (i:Int)>i:=by unfold VH;rw[if_pos<|01,if_pos<|01];simp
theorem zWp(C:Addr)(h:Hl)(xs:List Int):qz "at" (.f<|.l<|xs.map D.int) (uN (!.lst (h.P.map nE)) (.f<|.l<|h.at'.map D.int) (.f<|.tl<|mI h.R)<|.f<|.l<|h.past.map EC)=(uN (!.lst (h.P.map nE)) (.f<|.l<|xs.map D.int) (.f<|.tl<|mI h.R)<|.f<|.l<|h.past.map EC):=by
 dsimp[uN,qz,zKJ,beq_self_eq_true,if_true,xB,if_false]
theorem zQu(C:Addr)(h:Hl)(y:Fd):qz "rows" (.f y) (uN (!.lst (h.P.map nE)) (.f<|.l<|h.at'.map D.int) (.f<|.tl<|mI h.R)<|.f<|.l<|h.past.map EC)=(uN (!.lst (h.P.map nE)) (.f<|.l<|h.at'.map D.int) (.f y)<|.f<|.l<|h.past.map EC):=by
 dsimp[uN,qz,zHz,zMH,beq_self_eq_true,if_true,xB,if_false]
theorem zQv(C:Addr)(h:Hl)(y:Fd):qz "past" (.f y) (uN (!.lst (h.P.map nE)) (.f<|.l<|h.at'.map D.int) (.f<|.tl<|mI h.R)<|.f<|.l<|h.past.map EC)=(uN (!.lst (h.P.map nE)) (.f<|.l<|h.at'.map D.int) (.f<|.tl<|mI h.R)<|.f y):=by
 dsimp[uN,qz,zH0,zMI,zJB,beq_self_eq_true,if_true,xB,if_false]
theorem Sg{h:Hl}{ρ:lB}(e:ρ[i]?>(.o c<|vC C h))(hf:YN C f (vC C h)>.f y):uT C i f ρ>(c,(uN (!.lst (h.P.map nE)) (.f<|.l<|h.at'.map D.int) (.f<|.tl<|mI h.R)<|.f<|.l<|h.past.map EC),y):=by
 unfold uT;rw[e];dsimp[YN,vC,if_true]at hf ⊢;rw[hf]
theorem zWq(H:HOk k h)(C:Addr)(j:nextOf h i w>n):ZS C (vC C h) [.int i,.str w]>vC C { h with at':=h.at'.set i n }:=by
 refine ZO λa=>?_
 have hi:i<h.P.length:=by
  unfold nextOf HM at j;by_cases q:i<h.P.length
  .show q
  .have:h.P[i]?=none:=by simp;omega
   rw[this]at j;simp at j
 obtain⟨p,Z,s,U,Y,e3,es,b,ok⟩:=wX H hi;unfold nextOf at j;rw[es]at j
 cases s with
 |fin=>simp at j
 |rests=>simp at j
 |act t o prs=>
  have ok:xS _ _ _:=ok;simp only at j;have S:=zOl H C es;have sm:WJ C "state_of" 0 (zC (gV 1) zN) (qC C) [.o (some a)<|vC C h,!.int i,!.str w]>(oE<|.act t o prs):=EV rfl (vp C h) rfl S;have I:=zUB ok.rs (by have:=ok.few;omega);have z:=zRv w prs;rw[j]at z;have of:=Sg (C:=C) (h:=h) (f:="at") (ρ:=[.o (some a)<|vC C h,!.int i,!.str w]) (i:=0) (c:=some a) rfl<|zRw C h;have J:=zUH (n:=(h.at'.map D.int).length) (i:=i) (by rw[iA,H.len];show hi);have i2:=zWk t o prs
  have d1:i8 (b2 (WJ C "state_of" 0 (zC (gV 1) zN)<|qC C) (zM 2) WA) (gV 2) [.o (some a)<|vC C h,!.int i,!.str w]>.int n:=by
   unfold i8 b2;rw[sm,dA,dA,i2,dA,I,dA];show z
  have st:O5 C [.o (some a)<|vC C h,!.int i,!.str w]>.nx [.o (some a)<|vC C { h with at':=h.at'.set i n },!.int i,!.str w]:=by
   unfold O5 Sz;rw[d1,dA,of,dA];dsimp[DT,CB,jB,dA,J,wA,dQ,KD];have sa:=zWp C h<|h.at'.set i n;rw[oY]at sa;rw[sa];dsimp[vC,oY]
  change(O5 C [.o (some a)<|vC C h,!.int i,!.str w]).bind _=_;rw[st];dsimp[dA,fT,jB,if_true]
noncomputable def cN(k:Int×Int)(f:List Str->List Str):List ((Int×Int)×List Str)->List ((Int×Int)×List Str)
 | []=>[]
 |q::r=>if q.1=k then (q.1,f q.2)::r else q::cN k f r
def kQ(k:Int×Int)(w:Str)(R:List ((Int×Int)×List Str)):List ((Int×Int)×List Str):=match R.find? λq=>decide (q.1=k) with
 |some _=>cN k (· ++ [w]) R
 |none=>R++[(k,[w])]
theorem Sh{f:List Str->List Str}:∀{R:List ((Int×Int)×List Str)},((R.find? λq=>decide<|q.1=k).map (·.2))>xs->ZJ (KL k) ((f xs).map D.str) (mI R)=mI (cN k f R)
 | [],h=>by simp at h
 |q::R,h=>by
  rw[iB]at h;by_cases e:q.1=k
  .dsimp[e,decide_true,wA,DF]at h;dsimp[mI,eA,ZJ,cN,e,if_true,h]
  .dsimp[e,decide_false]at h;have j:¬ KL q.1=KL k:=λz=>e (zRx.mp z)
   have ih:=Sh (f:=f) (R:=R) h;dsimp[mI]at ih;dsimp[mI,eA,ZJ,cN,e,j,if_false,ih]
theorem Om(k:Int×Int)(f:List Str->List Str):∀R:List ((Int×Int)×List Str),(cN k f R).length=R.length
 | []=>rfl
 |q::R=>by unfold cN;split<;>simp[Om k f R]
theorem On{f:List Str->List Str}:∀{R:List ((Int×Int)×List Str)}{q:(Int×Int)×List Str},q∈cN k f R->q∈R\/∃q'∈R,q=(q'.1,f q'.2)
 | [],q,h=>by simp[cN]at h
 |r::R,q,h=>by
  unfold cN at h;split at h
  .rcases lA.mp h with rfl|h
   .show .inr ⟨r,gA,rfl⟩
   .show .inl<|bA _ h
  .rcases lA.mp h with rfl|h
   .show .inl gA
   .rcases On h with h|⟨q',h',e⟩
    .show .inl<|bA _ h
    .show .inr ⟨q',bA _ h',e⟩
theorem Oi{f:List Str->List Str}:∀R:List ((Int×Int)×List Str),((cN k f R).find? λq=>decide<|q.1=k').map (·.2)=((R.find? λq=>decide<|q.1=k').map (·.2)).map λxs=>if k'=k then f xs else xs
 | []=>rfl
 |r::R=>by
  have ih:=Oi (k:=k) (k':=k') (f:=f) R;unfold cN;by_cases e:r.1=k
  .rw[if_pos e,iB,iB];by_cases e':r.1=k'
   .simp[e',e'.symm.trans e]
   .have:¬ k'=k:=λz=>e' (e.trans z.symm)
    simp[e',this];rfl
  .rw[if_neg e,iB,iB];by_cases e':r.1=k'
   .have:¬ k'=k:=λz=>e (e'.trans z)
    simp[e',this]
   .dsimp[e',decide_false];show ih
theorem zWr{w:Str}:(match vH (mI R) (KL k) with
  |some xs=>ZJ (KL k) (xs++[.str w])<|mI R
  |none=>mI R++[(KL k,[.str w])])=mI (kQ k w R):=by
 rw[Bq];unfold kQ
 cases e:R.find? λq=>decide (q.1=k) with
 |none=>simp[mI]
 |some q=>
  have:=Sh (k:=k) (f:=(· ++ [w])) (xs:=q.2) (R:=R) (by rw[e];rfl);simpa using this
theorem zJG(h:Hl)(k:Int×Int)(w:Str)(a b:Int):YJ { h with R:=kQ k w h.R } a b=if (a,b)=k then YJ h a b++[w] else YJ h a b:=by
 unfold YJ kQ
 cases e:h.R.find? λq=>decide (q.1=k) with
 |none=>
  dsimp[List.find?_append];by_cases c:(a,b)=k
  .rw[c,e];simp
  .have:¬ k=(a,b):=λz=>c z.symm
   simp[c,this]
 |some q=>
  simp only;rw[Oi];by_cases c:(a,b)=k
  .rw[c,e];simp
  .simp[c];rfl
theorem zJH(h:Hl)(k:Int×Int)(a b:Int):YJ { h with R:=cN k fK h.R } a b=if (a,b)=k then (YJ h a b).tail else YJ h a b:=by
 unfold YJ;simp only;rw[Oi];by_cases c:(a,b)=k
 .dsimp[c,if_true]
  cases h.R.find? λq=>decide (q.1=k) with
  |none=>rfl
  |some q=>rfl
 .dsimp[c,if_false]
  cases h.R.find? λq=>decide (q.1=(a,b)) with
  |none=>rfl
  |some q=>rfl
theorem app_len(k:Int×Int)(w:Str)(R:List ((Int×Int)×List Str)):(kQ k w R).length<=R.length+1:=by
 unfold kQ;split
 .rw[Om];omega
 .simp
theorem zUI{q:(Int×Int)×List Str}(h:q∈kQ k w R):q∈R\/(∃q'∈R,q.2.length=q'.2.length+1)\/q.2.length=1:=by
 unfold kQ at h;split at h
 .rcases On h with h|⟨q',h',e⟩
  .show .inl h
  .show .inr (.inl ⟨q',h',by rw[e];simp⟩)
 .rcases nA.mp h with h|h
  .show .inl h
  .simp at h;subst h;show .inr<|.inr rfl
noncomputable def Mv.who(v:Mv):Nat:=(if v.t then v.a else v.b).toNat
def qt(v:Mv)(R:List ((Int×Int)×List Str)):List ((Int×Int)×List Str):=if v.t then kQ (v.a,v.b) v.w R else cN (v.a,v.b) fK R
def doM(h:Hl)(v:Mv)(n:Int):Hl:=⟨h.P,h.at'.set v.who n,qt v h.R,h.past++[v]⟩
theorem Qt{h:Hl}(H:HOk k h){v:Mv}(hv:v∈mvs h):∃o prs n,v.who<h.P.length/\HM h v.who>.act v.t o prs/\(v.w,n)∈prs/\nextOf h v.who v.w>n /\
  (if v.t=true then v.a=(v.who:Int)/\v.b=o else v.b=(v.who:Int)/\v.a=o/\[v.w]=(YJ h v.a v.b).take 1):=by
 obtain⟨i,hi,hm⟩:=VC.mp hv;have hi:=wB.mp hi;obtain⟨p,I,s,j,z,e3,es,b,ok⟩:=wX H hi
 have nx:∀(t:Bool)(o:Int)(prs:List (Str×Int))(q:Str×Int),s=.act t o prs->q∈prs->nextOf h i q.1>q.2:=λt o prs q hs hq=>by
  subst hs;have ok:xS _ _ _:=ok;unfold nextOf;rw[es];simp only;have nd:(prs.map (·.1)).Pairwise (·≠·):=ok.rs.imp λh=>h.ne
  have:∀(l:List (Str×Int)),(l.map (·.1)).Pairwise (·≠·)->q∈l->(l.find? λx=>decide<|x.1=q.1).map (·.2)>q.2:=by
   intro l
   induction l with
   |nil=>intro _ h;simp at h
   |cons x l ih=>
    intro hp hq;rw[eA]at hp;obtain⟨h1,h2⟩:=MA.mp hp;rw[iB];rcases lA.mp hq with rfl|hq
    .simp
    .have:x.1≠q.1:=h1 q.1<|IB hq;dsimp[this,decide_false];show ih h2 hq
  show this prs nd hq
 unfold mvsOf at hm;rw[es]at hm
 cases s with
 |fin=>simp at hm
 |rests=>simp at hm
 |act t o prs=>
  cases t with
  |true=>
   simp only at hm;obtain⟨q,hq,rfl⟩:=LA.mp hm;refine⟨o,prs,q.2,?_⟩;dsimp[Mv.who,if_true,rB]
   show⟨hi,es,hq,nx true o prs q rfl hq,by simp⟩
  |false=>
   simp only at hm;obtain⟨q,hq,rfl⟩:=LA.mp hm;obtain⟨hq,hr⟩:=LC.mp hq;refine⟨o,prs,q.2,?_⟩;dsimp[Mv.who,xB,if_false,rB];show⟨hi,es,hq,nx false o prs q rfl hq,‹hr›⟩
theorem Ar{fl:dD}{F:Ob->List D->Option Ob}{ρ:lB}(h1:ρ[i]?>.o c x)(h2:DM C m x=true)(h3:fl ρ>ds)(j:F x ds>x'):KQ C m i fl F ρ>(.nx<|ρ.set i<|.o c x'):=by
 unfold KQ;rw[h1];dsimp[h2,if_true,h3,dA,j,wA]
theorem HOk.rows(H:HOk k h){R:List ((Int×Int)×List Str)}(hk:k<=k')(h1:R.length<=k')(h2:∀q∈R,q.2.length<=k'):HOk k' { h with R:=R }:=
 ⟨H.len,H.m4,H.inn,H.st,h1,h2,vA H.pl hk⟩
theorem zJI{h:Hl}(H:HOk k h)(v:Mv):(qt v h.R).length<=k+1/\∀q∈qt v h.R,q.2.length<=k+1:=by
 have h1:=H.rn;have h2:=H.rl;unfold qt;split
 .refine⟨vA (app_len ..)<|01,λq hq=>?_⟩;rcases zUI hq with hq|⟨q',j,e⟩|e
  .have:=h2 q hq;omega
  .have:=h2 q' j;omega
  .omega
 .refine⟨by rw[Om];omega,λq hq=>?_⟩;rcases On hq with hq|⟨q',j,e⟩
  .have:=h2 q hq;omega
  .have:=h2 q' j;rw[e];dsimp[List.length_tail];omega
theorem Si(H:HOk k h){v:Mv}(hs:HM h v.who>.act v.t o prs)(O:(v.w,n)∈prs):HOk (k+1) (doM h v n):=by
 obtain⟨r1,r2⟩:=zJI H v;have Z:=H.pl;refine⟨by simp[doM,H.len],H.m4,λi p S z j=>?_,H.st,r1,r2,by simp[doM];omega⟩;dsimp[doM]at z j;by_cases c:v.who=i
 .subst c
  have EH:v.who<h.at'.length:=by
   have:=(BA.mp j).1;simpa using this
  rw[ZA EH]at j;cases j;obtain⟨p',n0,s,a1,a2,U,I,Y,J⟩:=wX H (i:=v.who) (by rw[<- H.len];show EH);rw[z]at a1;cases a1;rw[hs]at I;cases I;show(J:xS _ _ _).nx _ O
 .rw[RA c]at j;show H.inn i p S z j
theorem zRy{h:Hl}(H:HOk k h)(hk:k<=1000)(C:Addr){v:Mv}(hv:v∈mvs h):∃n o prs,v.who<h.P.length/\HM h v.who>.act v.t o prs/\(v.w,n)∈prs/\nextOf h v.who v.w>n/\pW C (vC C h) [EC v]>(vC C<|doM h v n):=by
 obtain⟨o,prs,n,w1,w2,w3,w4,S⟩:=Qt H hv;refine⟨n,o,prs,w1,w2,w3,w4,ZO λa=>?_⟩;have r1:=H.rn;have r2:=H.rl;have r3:=H.pl;have mc:=Q0 H C v;rw[decide_eq_true hv]at mc;have i0:=zWn v;have i1:=Tt v;have i2:=Tu v;have i3:=zWo v;have Y:WJ C "can_be_done" 0 (zC (gV 1) zN) (qD C) [.o (some a)<|vC C h,!EC v,.un]>.bl true:=EV rfl (zWi C h) rfl mc
 have s1:(nG (ZX<|QQ<|WJ C "can_be_done" 0 (zC (gV 1) zN)<|qD C) (λ_=>none)<|λρ=>some<|Out.nx ρ) [.o (some a)<|vC C h,!EC v,.un]>.nx [.o (some a)<|vC C h,!EC v,.un]:=by
  unfold nG ZX QQ;rw[Y];rfl
 have s2:qF 2 (λρ=>((zC (b2 (gR 1) (zM 1) WA)<|zC (b2 (gR 1) (zM 2) WA) zN) ρ).map D.tup) [.o (some a)<|vC C h,!EC v,.un]>.nx [.o (some a)<|vC C h,!EC v,!.tup [.int v.a,.int v.b]]:=by
  refine(ym (d:=.tup [.int v.a,.int v.b]) ?_).trans rfl
  exists 0,i1,i2
 have kt:jQ (.tup [.int v.a,.int v.b])>KL (v.a,v.b):=rfl;obtain⟨y1,y2⟩:=zJI H v;have H1:HOk (k+1) { h with R:=qt v h.R }:=H.rows 01 y1 y2;have of:=Sg (C:=C) (h:=h) (f:="rows") (ρ:=[.o (some a)<|vC C h,!EC v,!.tup [.int v.a,.int v.b]]) (i:=0) (c:=some a) rfl<|zLP C h;have j:=Bq (v.a,v.b) h.R
 have pf:∀y ρ',dQ C 0 "rows" (some a) (uN (!.lst (h.P.map nE)) (.f<|.l<|h.at'.map D.int) (.f<|.tl<|mI h.R)<|.f<|.l<|h.past.map EC) (.tl<|mI y) [.o (some a)<|vC C h,!EC v,ρ']=[.o (some a)<|vC C { h with R:=y },!EC v,ρ']:=λy ρ'=>by
  unfold dQ;rw[zQu C h];rfl
 have sF:∀(h1:Hl),HOk (k+1) h1->Bx C 0 "past" (gV 1) [.o (some a)<|vC C h1,!EC v,!.tup [.int v.a,.int v.b]]>.nx [.o (some a)<|vC C { h1 with past:=h1.past++[v] },!EC v,!.tup [.int v.a,.int v.b]]:=λh1 H1=>by
  have of:=Sg (C:=C) (h:=h1) (f:="past") (ρ:=[.o (some a)<|vC C h1,!EC v,!.tup [.int v.a,.int v.b]]) (i:=0) (c:=some a) rfl<|zQs C h1;have l1:(h1.past.map EC).length<1000000:=by have:=H1.pl;rw[iA];omega
  unfold Bx;rw[of,dA];dsimp[if_pos l1,DT,CB,jB,wA,dQ,KD];rw[zQv C h1];simp[vC,uN]
 have go:∀(i:Nat),i=v.who->ZS C (vC C { h with R:=qt v h.R }) [.int i,.str v.w]>vC C ⟨h.P,h.at'.set v.who n,qt v h.R,h.past⟩:=λi e=>by
  subst e;show zWq H1 C w4
 have fin:(i7 C [.o (some a)<|vC C h,!EC v,.un])>.nx [.o (some a)<|vC C<|doM h v n,!EC v,!.tup [.int v.a,.int v.b]]:=by
  unfold i7;rw[zl s1,zl s2]
  have s3:(nG (bB<|b2 (b2 (gR 1) (zM 0) WA) (λ_=>some<|D.str "tell") AE) (sq (G6 C 0 "rows" (gV 2)<|b2 (gR 1) (zM 3) WA)<|KQ C "go_on" 0 (zC (b2 (gR 1) (zM 1) WA)<|zC (b2 (gR 1) (zM 3) WA) zN)<|ZS C)<|sq (E6 C 0 "rows"<|gV 2)<|KQ C "go_on" 0 (zC (b2 (gR 1) (zM 2) WA)<|zC (b2 (gR 1) (zM 3) WA) zN)<|ZS C) [.o (some a)<|vC C h,!EC v,!.tup [.int v.a,.int v.b]]>.nx [.o (some a)<|vC C ⟨h.P,h.at'.set v.who n,qt v h.R,h.past⟩,!EC v,!.tup [.int v.a,.int v.b]]:=by
   have ek:AE (.str<|NQ v.t) (.str "tell")>.bl v.t:=by
    rw[RV,show fA "tell" = NQ true from rfl,zJE];cases v.t<;>rfl
   have tst:(bB<|b2 (b2 (gR 1) (zM 0) WA) (λ_=>some<|D.str "tell") AE) [.o (some a)<|vC C h,!EC v,!.tup [.int v.a,.int v.b]]>v.t:=by
    exists i0,ek,pF,zR,gN,gT,UD,vF,zw,zi,EG
   unfold nG;rw[tst,dA]
   cases U:v.t with
   |true=>
    rw[if_pos rfl];rw[U]at S;dsimp[if_true]at S;have O:=zWr (k:=(v.a,v.b)) (w:=v.w) (R:=h.R);have rb:qt v h.R=kQ (v.a,v.b) v.w h.R:=by simp[qt,U]
    have t1:G6 C 0 "rows" (gV 2) (b2 (gR 1) (zM 3) WA) [.o (some a)<|vC C h,!EC v,!.tup [.int v.a,.int v.b]]>.nx [.o (some a)<|vC C { h with R:=qt v h.R },!EC v,!.tup [.int v.a,.int v.b]]:=by
     rw[rb];unfold G6;rw[of,dA]
     have e3:∀s0,(b2 (gR 1) (zM 3) WA) [s0,!EC v,!.tup [.int v.a,.int v.b]]>.str v.w:=λs0=>by
      exists 0,i3
     dsimp[DT,CB,jB,dA,kt]
     cases eg:vH (mI h.R) (KL (v.a,v.b)) with
     |some xs=>
      rw[eg]at O j;simp only at O
      have Z:xs.length<1000000:=by
       cases I:h.R.find? λq=>decide (q.1=(v.a,v.b)) with
       |none=>rw[I]at j;simp at j
       |some q=>
        rw[I]at j;dsimp[wA,DF]at j;have:=r2 q<|List.mem_of_find?_eq_some I;rw[j,iA];omega
      dsimp[if_pos Z,e3,wA,O,pf]
     |none=>
      rw[eg]at O;simp only at O;have Z:(mI h.R).length<1000000:=by unfold mI;rw[iA];omega
      dsimp[if_pos Z];have e4:=e3<|.o (some a)<|.ins C<|qz "rows" (.f<|.tl<|mI h.R++[(KL (v.a,v.b),[])])<|uN (!.lst (h.P.map nE)) (.f<|.l<|h.at'.map D.int) (.f<|.tl<|mI h.R)<|.f<|.l<|h.past.map EC;rw[show dQ C 0 "rows" (some a) (uN (!.lst (h.P.map nE)) (.f<|.l<|h.at'.map D.int) (.f<|.tl<|mI h.R)<|.f<|.l<|h.past.map EC) (.tl<|mI h.R++[(KL (v.a,v.b),[])]) [.o (some a)<|vC C h,!EC v,!.tup [.int v.a,.int v.b]]=[.o (some a)<|.ins C<|qz "rows" (.f<|.tl<|mI h.R++[(KL (v.a,v.b),[])])<|uN (!.lst (h.P.map nE)) (.f<|.l<|h.at'.map D.int) (.f<|.tl<|mI h.R)<|.f<|.l<|h.past.map EC,!EC v,!.tup [.int v.a,.int v.b]] from rfl,e4];dsimp[wA,O,pf]
    rw[zl t1];refine(Ar (ds:=[.int (v.who:Int),.str v.w]) rfl (zLQ C _) ?_<|go v.who rfl).trans rfl;rw[<- S.1]
    exists 0,i1,i3
   |false=>
    rw[if_neg<|by simp];rw[U]at S;dsimp[xB,if_false]at S;obtain⟨z1,z2,J⟩:=S;have rb:qt v h.R=cN (v.a,v.b) fK h.R:=by simp[qt,U]
    have t1:E6 C 0 "rows" (gV 2) [.o (some a)<|vC C h,!EC v,!.tup [.int v.a,.int v.b]]>.nx [.o (some a)<|vC C { h with R:=qt v h.R },!EC v,!.tup [.int v.a,.int v.b]]:=by
     rw[rb];unfold E6;rw[of,dA];dsimp[DT,CB,jB,dA,kt];unfold YJ at J
     cases I:h.R.find? λq=>decide (q.1=(v.a,v.b)) with
     |none=>rw[I]at J;simp at J
     |some q=>
      rw[I]at J j;dsimp[wA,GG]at J j
      cases hq:q.2 with
      |nil=>rw[hq]at J;simp at J
      |cons x xs=>
       rw[hq,eA]at j;rw[j];have rs:=Sh (k:=(v.a,v.b)) (f:=fK) (xs:=x::xs) (R:=h.R) (by rw[I];simp[hq]);dsimp[List.tail_cons]at rs;dsimp[rs,pf]
    rw[zl t1];refine(Ar (ds:=[.int (v.who:Int),.str v.w]) rfl (zLQ C _) ?_<|go v.who rfl).trans rfl;rw[<- z1]
    exists 0,i2,i3
  rw[zl s3];refine(sF ⟨h.P,h.at'.set v.who n,qt v h.R,h.past⟩ ?_).trans rfl;have:=Si H w2 w3;show⟨this.len,this.m4,this.inn,this.st,this.rn,this.rl,by change h.past.length<=k+1;omega⟩
 change(i7 C [.o (some a)<|vC C h,!EC v,.un]).bind _=_;rw[fin];dsimp[dA,fT,jB,if_true]
theorem zUJ(h:PS m ps d){Ks:List (List Int)}(k:IsPart ps d Ks)(hK:K∈Ks):aR Ks.length (EJ ps d Ks K):=by
 have few:=zRu h.few (k.st K hK)<|k.al K hK;have z:=Qn<|DJ ps d K;have mp:(WM ps d Ks K).map (·.1)=yi ps d K:=by unfold WM;rw[JA];show List.map_id _
 have ok:∀o,xS Ks.length o<|WM ps d Ks K:=λo=>by
  refine⟨by unfold WM yi;rw[iA,W4];omega,by rw[mp];show L4<|Z4 _,λq hq=>?_,λq hq=>?_⟩
  .obtain⟨w,j,rfl⟩:=LA.mp hq;obtain⟨x,hx,e⟩:=vX.mp<|qX.mp j;rw[<- e];show(zWb h.dn hx).2
  .obtain⟨w,j,rfl⟩:=LA.mp hq;have:=zOa<|k.cl K hK w j;show⟨by simp,‹this›⟩
 unfold EJ
 cases turns ps d K with
 |nil=>trivial
 |cons t ts=>
  simp only
  cases ask t d with
  |fin=>trivial
  |tells b ws=>show ok b
  |hears a=>show ok a
def fU(ps:List Pl)(i:Nat)(p:List St):Prop:=∃Ks,IsPart ps i Ks/\p=Ks.map (EJ ps i Ks)
def OR(ps:List Pl):List Nat->List (List St)->Prop
 | [],P=>P=[]
 |i::is,P=>∃p r,P=p::r/\fU ps i p/\OR ps is r
theorem OR.get:∀{is:List Nat}{P:List (List St)},OR ps is P->P.length=is.length/\∀(j:Nat)(p:List St),P[j]?>p->∃i,is[j]?>i/\fU ps i p
 | [],P,h=>by dsimp[OR]at h;subst h;show⟨rfl,λj p e=>by simp at e⟩
 |i::is,P,h=>by
  obtain⟨p,r,rfl,h1,h2⟩:=h;obtain⟨l,g⟩:=h2.get;refine⟨by simp[l],λj q e=>?_⟩
  cases j with
  |zero=>simp at e;subst e;show⟨i,rfl,h1⟩
  |succ j=>simp at e;simpa using g j q e
noncomputable def cO:List (Except Nat D)->Except Nat (List D)
 | []=>.ok []
 |.error c::_=>.error c
 |.ok y::r=>match cO r with
  |.ok ys=>.ok (y::ys)
  |.error c=>.error c
theorem zLT{Y:lB->Option (Except Nat D)}{r:Nat->Except Nat D}:∀(is:List Nat),(∀i∈is,Y [s0,s1,!.int (i:Int)]>r i)->NX (gN 2) Y (is.map λ(i:Nat)=>D.int<|0+(i:Int)) [s0,s1,.un]>(cO<|is.map r)
 | [],_=>rfl
 |i::is,h=>by
  have ih:=zLT is λj z=>h j<|bA _ z
  have hi:=h i gA;have g:gN 2 (D.int<|0+(i:Int)) [s0,s1,.un]>[s0,s1,!.int (i:Int)]:=by rw[jE];rfl
  rw[eA,NX,g,dA,hi,dA,eA,ih]
  cases r i with
  |error c=>rfl
  |ok y=>
   dsimp[cO,wA]
   all_goals (cases cO (is.map r)<;>rfl)
def XM(m:Int)(ps:List Pl)(i:Nat):Except Nat D:=(za [uB m ps,.int (i:Int)]).getD<|.error 0
theorem zLU{m:Int}{ps:List Pl}(hd:yn m ps)(hf:kJ ps){i:Nat}(hi:(i:Int)<m):za [uB m ps,.int (i:Int)]>XM m ps i/\(XM m ps i=.error 0\/∃p,fU ps i p/\XM m ps i=.ok (nE p)):=by
 unfold XM;rcases zT8 (m:=m) (ps:=ps) (d:=(i:Int)) ⟨hd,hf,01,hi⟩ with e|⟨Ks,hk,e⟩
 .rw[e];show⟨rfl,.inl rfl⟩
 .rw[e];show⟨rfl,.inr ⟨_,⟨Ks,hk,rfl⟩,rfl⟩⟩
theorem zMK{f:dD}(M:List D->Option (Except Nat D))(h:f ρ>ds):(λρ=>(f ρ).bind M) ρ=M ds:=by
 change(f ρ).bind M=M ds;rw[h];rfl
theorem Dw(C:Addr)(m:Int)(ps:List Pl)(s0:Sl)(d:D):L5 C [s0,!uB m ps,.v d]=za [uB m ps,d]:=by
 unfold L5;show zMK za rfl
theorem zJJ(hd:yn m ps)(hf:kJ ps):∀(is:List Nat),(∀i∈is,(i:Int)<m)->cO (is.map<|XM m ps)=.error 0\/∃P,OR ps is P/\is.map (XM m ps)=P.map (λp=>.ok<|nE p)/\cO (is.map<|XM m ps)=.ok (P.map nE)
 | [],_=>.inr ⟨[],rfl,rfl,rfl⟩
 |i::is,h=>by
  have hi:=h i gA;have ih:=zJJ hd hf is λj I=>h j<|bA _ I
  rw[eA];rcases(zLU hd hf hi).2 with e|⟨p,hp,e⟩
  .left;rw[e];rfl
  .rw[e];rcases ih with e' | ⟨P,z,hq,e'⟩
   .left;dsimp[cO,e']
   .right
    show⟨p::P,⟨_,_,rfl,hp,z⟩,by rw[eA,hq],by dsimp[cO,e',eA]⟩
noncomputable def iM(P:List (List St)):Hl:=⟨P,P.map λ_=>0,[],[]⟩
theorem zQw{m:Int}(hd:yn m ps)(hf:kJ ps){P:List (List St)}(h:OR ps (uA m.toNat) P):HOk 0 (iM P)/\P.length=m.toNat:=by
 obtain⟨l,g⟩:=h.get;rw[AG]at l;have hm:=hd.m1;have O:=hd.m0
 have one:∀(j:Nat)(p:List St),P[j]?>p->0<p.length/\∀s∈p,aR p.length s:=λj p e=>by
  obtain⟨i,J,Ks,hk,rfl⟩:=g j p e;have hi:=wB.mp<|xA J;refine⟨?_,λs hs=>?_⟩
  .have:=(BA.mp hk.ze).1;simpa using this
  .obtain⟨K,hK,rfl⟩:=LA.mp hs;rw[iA];show zUJ (m:=m) ⟨hd,hf,01,01⟩ hk hK
 refine⟨⟨by simp[iM],by dsimp[iM];omega,λi p n I z=>?_,λp hp=>?_,by simp[iM],by simp[iM],by simp[iM]⟩,l⟩
 .dsimp[iM,CA]at I z;rw[I]at z;simp at z;subst z;have:=(one i p I).1;omega
 .obtain⟨j,e⟩:=List.getElem?_of_mem hp;show(one j p e).2
theorem Br{fs:List (Str×Fl)}(h1:fs.lookup f=none)(h2:fs.length<900):ZN C 0 f x [.o c<|.ins C fs,s1]>.nx [.o c<|.ins C<|fs++[(f,x)],s1]:=by
 have h3:(fD f fs).isNone=true:=by rw[h1];rfl
 dsimp[ZN,jB,h3,h2,and_self,if_true,KD]
theorem zOu(C:Addr)(s0 s1:Sl)(P:List (List St)):zR (gN 2) (λ_=>some true) (rX C) (P.map nE) [s0,s1,.un]>(P.map λ_=>(0:Int)).map D.int:=by
 have:=yQ (g:=gN 2) (p:=λ_=>some true) (f:=rX C) (emb:=nE) (ρ:=[s0,s1,.un]) (λ_=>true) (λ_=>D.int 0) P λp _=>⟨_,rfl,rfl,λ_=>rfl⟩
 rw[this,wD.mpr (by simp),JA];rfl
theorem zOv{m:Int}{ps:List Pl}(hd:yn m ps)(hf:kJ ps)(C:Addr):(cO ((uA m.toNat).map<|XM m ps)=.error 0/\JV C (.ins C []) [uB m ps]>.error 0)\/∃P,OR ps (uA m.toNat) P/\(uA m.toNat).map (XM m ps)=P.map (λp=>.ok<|nE p)/\JV C (.ins C []) [uB m ps]>(.ok<|vC C<|iM P):=by
 have hm:=hd.m1;have hm0:=hd.m0;have inr:∀i∈uA m.toNat,(i:Int)<m:=λi hi=>by have:=wB.mp hi;omega
 have rg:∀s0,UJ (zC (b2 (gR 1) (zM 0) WA) zN) [s0,!uB m ps]>rng 0 m.toNat:=λs0=>by
  refine FQ ?_ 01;have i0:WA (uB m ps) (.int 0)>.int m:=by dsimp[uB,WA,FI]
  rw[show((m.toNat:Nat):Int)=m by omega]
  exists 0,i0
 have rl:(rng 0 m.toNat).length<=1000000:=by rw[Qo];omega
 have S:∀a,BX 1 (UJ<|zC (b2 (gR 1) (zM 0) WA) zN) (gN 2) (L5 C) [.o (some a)<|.ins C [],!uB m ps]>(cO<|(uA m.toNat).map<|XM m ps):=λa=>by
  unfold BX;rw[rg,dA,if_pos rl];show zLT _ λi hi=>(Dw C m ps _ _).trans (zLU hd hf<|inr i hi).1
 rcases zJJ hd hf (uA m.toNat) inr with e|⟨P,O,hq,e⟩
 .left
  refine⟨e,ZO λa=>?_⟩;change(IX C [.o (some a)<|.ins C [],!uB m ps]).bind _=_;unfold IX;rw[Bn (c:=0) (by unfold x6;rw[S a,e];rfl)];rfl
 .right
  obtain⟨Z,_⟩:=O.get;rw[AG]at Z;refine⟨P,O,hq,ZO λa=>?_⟩;change(IX C [.o (some a)<|.ins C [],!uB m ps]).bind _=_;unfold IX
  have t1:x6 C 0 "parts" (BX 1 (UJ<|zC (b2 (gR 1) (zM 0) WA) zN) (gN 2)<|L5 C) [.o (some a)<|.ins C [],!uB m ps]>(.o<|.nx [.o (some a)<|.ins C [(fA "parts",!.lst (P.map nE))],!uB m ps]):=by
   unfold x6;rw[S a,e,dA];simp only;rw[Br rfl<|02];rfl
  rw[GQ t1]
  have J:(λρ=>(bN C 0 (fA "parts") ρ).bind AU) [.o (some a)<|.ins C [(fA "parts",!.lst (P.map nE))],!uB m ps]>(.lst<|P.map nE):=by
   dsimp[bN,dP,jB,dA,YN,if_true,YA,beq_self_eq_true,AU]
  have Y:=zOu C (.o (some a)<|.ins C [(fA "parts",!.lst (P.map nE))]) (!uB m ps) P;have j:fD (fA "at") [(fA "parts",Fl.v<|.lst<|P.map nE)]=none:=by dsimp[YA,vn,JH]
  have t2:(λρ=>((zK 1 (iL<|λρ=>(bN C 0 (fA "parts") ρ).bind AU) (gN 2) (λ_=>some true)<|rX C) ρ).bind λxs=>ZN C 0 (fA "at") (.f<|.l xs) ρ) [.o (some a)<|.ins C [(fA "parts",!.lst (P.map nE))],!uB m ps]>.nx [.o (some a)<|.ins C [(fA "parts",!.lst (P.map nE)),(fA "at",.f<|.l<|(P.map λ_=>(0:Int)).map D.int)],!uB m ps]:=by
   have U:zK 1 (iL<|λρ=>(bN C 0 (fA "parts") ρ).bind AU) (gN 2) (λ_=>some true) (rX C) [.o (some a)<|.ins C [(fA "parts",!.lst (P.map nE))],!uB m ps]>(P.map λ_=>(0:Int)).map D.int:=by
    unfold zK iL;simp only at J;dsimp[J,Dz,dA];rw[if_pos (by rw[iA];omega)];show Y
   dsimp[U,dA];rw[Br j<|by simp];rfl
  have z:fD (fA "rows") [(fA "parts",Fl.v<|.lst<|P.map nE),(fA "at",.f<|.l<|(P.map λ_=>(0:Int)).map D.int)]=none:=by dsimp[YA,kr,zHC,JH]
  have I:fD (fA "past") [(fA "parts",Fl.v<|.lst<|P.map nE),(fA "at",.f<|.l<|(P.map λ_=>(0:Int)).map D.int),(fA "rows",.f<|.tl [])]=none:=by dsimp[YA,kx,zHD,vk,JH]
  have t3:=Br (C:=C) (f:=fA "rows") (x:=.f<|.tl []) (c:=some a) (s1:=!uB m ps) z (by simp);have t4:=Br (C:=C) (f:=fA "past") (x:=.f<|.l []) (c:=some a) (s1:=!uB m ps) I (by simp)
  have t5:(oX<|sq (λρ=>((zK 1 (iL<|λρ=>(bN C 0 (fA "parts") ρ).bind AU) (gN 2) (λ_=>some true)<|rX C) ρ).bind λxs=>ZN C 0 (fA "at") (.f<|.l xs) ρ)<|sq (λρ=>ZN C 0 (fA "rows") (.f<|.tl []) ρ)<|λρ=>(zN ρ).bind λxs=>ZN C 0 (fA "past") (.f<|.l xs) ρ) [.o (some a)<|.ins C [(fA "parts",!.lst (P.map nE))],!uB m ps]>(.o<|.nx [.o (some a)<|vC C<|iM P,!uB m ps]):=by
   refine lT ?_;rw[zl t2,zl t3];show t4
  rw[t5];dsimp[dA,fT,jB,if_true,wA]
theorem zJK{m:Int}(hd:yn m ps)(hf:kJ ps)(C:Addr):(cO ((uA m.toNat).map<|XM m ps)=.error 0/\yJ C [uB m ps]>.v .non)\/∃P,OR ps (uA m.toNat) P/\(uA m.toNat).map (XM m ps)=P.map (λp=>.ok<|nE p)/\yJ C [uB m ps]>(.o none<|vC C<|iM P):=by
 have s1:qF 1 (λ_=>some D.non) [!uB m ps,.un]>.nx [!uB m ps,.v .non]:=rfl;have go:yJ C [uB m ps]=(R9 C [!uB m ps,.un]).bind S6:=rfl;rw[go];unfold R9;rw[zl s1];rcases zOv hd hf C with⟨j,e⟩|⟨P,z,hq,e⟩
 .left
  refine⟨j,?_⟩
  have t:AX C 1 (zC (gV 0) zN) (JV C) 0 (qF 1<|λ_=>some D.non) [!uB m ps,.v .non]>.nx [!uB m ps,.v .non]:=by
   unfold AX;rw[show(zC (gV 0) zN) [!uB m ps,.v .non]>[uB m ps] from rfl,dA,e];rfl
  rw[zl t];rfl
 .right
  refine⟨P,z,hq,?_⟩
  have t:AX C 1 (zC (gV 0) zN) (JV C) 0 (qF 1<|λ_=>some D.non) [!uB m ps,.v .non]>.nx [!uB m ps,.o none<|vC C<|iM P]:=by
   unfold AX;rw[show(zC (gV 0) zN) [!uB m ps,.v .non]>[uB m ps] from rfl,dA,e];rfl
  rw[zl t];rfl
end LG
namespace K06
open PySem L2 RD LG
noncomputable def upd{α:Type}(f:Nat->α)(i:Nat)(v:α):Nat->α:=λj=>if j=i then v else f j
theorem upd_ne{α:Type}{f:Nat->α}{i j:Nat}{v:α}(h:j≠i):upd f i v j=f j:=if_neg h
noncomputable def tot(rem:Nat->List Mv):Nat:=(rem 0).length+(rem 1).length+(rem 2).length+(rem 3).length
def Rc(ps:List Pl)(d:Int):Nat->Int->Int->Prop
 |0,s,z=>s=z
 |k+1,s,z=>∃y∈SL ps d s,Rc ps d k y z
theorem Sj:∀(k:Nat)(found ws f:List Int),LG.run ps d k found ws>f->∀z∈f,z∈found\/∃s∈ws,∃j,Rc ps d j s z
 |0,found,ws,f,h=>by simp[LG.run]at h
 |k+1,found,ws,f,h=>by
  unfold LG.run at h
  cases e:ws.getLast? with
  |none=>rw[e]at h;cases h;showλz hz=>.inl hz
  |some n=>
   rw[e]at h;simp only at h;have J:=(C5 e).1;have O:n∈ws:=by rw[J];show EA _<|jA.mpr rfl
   have I:∀s∈ws.dropLast,s∈ws:=λs hs=>by rw[J];show BB _ hs
   split at h
   .intro z hz;rcases Sj k found ws.dropLast f h z hz with q|⟨s,hs,j,r⟩
    .show .inl q
    .show .inr ⟨s,I s hs,j,r⟩
   .intro z hz;rcases Sj k (found++[n]) (ws.dropLast++SL ps d n) f h z hz with q|⟨s,hs,j,r⟩
    .rcases nA.mp q with q|q
     .show .inl q
     .cases jA.mp q;show .inr ⟨n,O,0,rfl⟩
    .rcases nA.mp hs with hs|hs
     .show .inr ⟨s,I s hs,j,r⟩
     .show .inr ⟨n,O,j+1,s,hs,r⟩
end K06
namespace K06
open PySem L2 RD LG
theorem Sk:∀(k:Nat)(found ws f:List Int),run ps d k found ws>f->(∀x∈found,x∈f)/\(∀x∈ws,x∈f)/\∀x∈f,x∉found->∀y∈SL ps d x,y∈f
 |0,found,ws,f,h=>by simp[LG.run]at h
 |k+1,found,ws,f,h=>by
  unfold LG.run at h
  cases e:ws.getLast? with
  |none=>
   rw[e]at h;cases h;rw[vj e]
   show⟨λx hx=>hx,λx hx=>(nomatch hx),λx hx nx=>absurd hx nx⟩
  |some n=>
   rw[e]at h;simp only at h;have j:=(C5 e).1;split at h
   .rename_i I;obtain⟨a,b,c⟩:=Sk k found ws.dropLast f h;refine⟨a,λx hx=>?_,c⟩;rw[j]at hx;rcases nA.mp hx with hx|hx
    .show b x hx
    .cases jA.mp hx;show a n I
   .obtain⟨a,b,c⟩:=Sk k (found++[n]) (ws.dropLast++SL ps d n) f h;refine⟨λx hx=>a x<|BB _ hx,λx hx=>?_,λx hx nx y hy=>?_⟩
    .rw[j]at hx;rcases nA.mp hx with hx|hx
     .show b x<|BB _ hx
     .cases jA.mp hx;show a n<|EA _<|jA.mpr rfl
    .by_cases q:x=n
     .subst q;show b y<|EA _ hy
     .show c x hx (λz=>(nA.mp z).elim nx λz=>q<|jA.mp z) y hy
noncomputable def own(d:Int)(v:Mv):Bool:=if v.t then decide (v.a=d) else decide (v.b=d)
end K06
namespace K11
open PySem L2 RD LG
def Kk:dC:=(λρ=>((zC (gV 4)<|zC (b2 (gR 2) (gR 5) WA) zN) ρ).map D.tup)
noncomputable abbrev Kh:List Str:=["place","dancers","numbers","choices"]
def ql:aC:=(sq (nG (bB<|b2 (b2 (gR 0) (zM 0) WA) (λ_=>some<|D.str "end") AE) (wF<|gV 0)<|λρ=>some<|Out.nx ρ)<|sq (qF 3<|b1 (λρ=>((zK 2 (iT<|b2 (gR 0) (zM 3) WA) (gT 2<|UD (gN 4)<|UD (gN 5) vF) (λ_=>some true) Kk) ρ).map D.lst) tK)<|wF<|λρ=>((zC (λ_=>some<|D.str "tell")<|zC (b2 (gR 1) (b2 (gR 0) (zM 1) WA) WA)<|zC (b2 (gR 1) (b2 (gR 0) (zM 2) WA) WA)<|zC (gV 3) zN) ρ).map D.tup)
def yb(ds:List D):Option D:=AI Kh ql ds
def o9:aC:=(Bu 4 (b2 (gR 2) (gR 5) WA)<|λρ=>((zC (gV 6)<|zC (gV 1)<|zC (gV 2) zN) ρ).bind yb)
def E4:dC:=(VY 4<|gV 7)
noncomputable abbrev Oj:List Str:=["dance","dancers","numbers","places","moved","number","place"]
def zJL:aC:=(sq (qF 3<|b2 (gR 0) (zM 1) WA)<|sq (Bt 4)<|sq (zn (ZU<|gV 3) (gT 2<|UD (gN 5)<|UD (gN 6) vF) o9)<|wF<|λρ=>((zC (b2 (gR 0) (zM 0) WA)<|zC (b1 (λρ=>((zK 1 (UJ<|zC (b1 (gR 3) cH) zN) (gN 7) (λ_=>some true) E4) ρ).map D.lst) tK) zN) ρ).map D.tup)
def d5(ds:List D):Option D:=AI Oj zJL ds
def yy:dC:=(λρ=>((zC (b2 (gR 0) (b2 (zM 5) (gR 3) iQ) qG)<|zC (zM 9811)<|zC (b2 (gR 1) (gR 3) OK) zN) ρ).bind zP)
noncomputable abbrev Nh:List Str:=["_law_cell_here","_law_many","_law_left"]
def zHF:aC:=(sq (AJ 2<|h7<|zC (gV 1) zN)<|Tg 1 2 (UJ<|zC (gV 1) zN) (gN 3) yy)
def qE(ds:List D):Option D:=AI Nh zHF ds
noncomputable def Ki:dC:=(λ_=>some D.non)
def Kj:dC:=(λρ=>((zC (gV 7)<|zC (b2 (gR 2) (gR 8) WA) zN) ρ).map D.tup)
def yz:aC:=(sq (nG (bB<|b2 (gR 5) (λρ=>((zC (λ_=>some<|D.str "end") zN) ρ).map D.tup) EG) (sq (qF 6<|b1 (λρ=>((zK 2 (iT<|b2 (gR 5) (zM 3) WA) (gT 2<|UD (gN 7)<|UD (gN 8) vF) (λ_=>some true) Kj) ρ).map D.lst) tK)<|qF 5<|λρ=>((zC (λ_=>some<|D.str "tell")<|zC (b2 (gR 1) (b2 (gR 5) (zM 1) WA) WA)<|zC (b2 (gR 1) (b2 (gR 5) (zM 2) WA) WA)<|zC (gV 6) zN) ρ).map D.tup)<|λρ=>some<|Out.nx ρ)<|Qx 3 (b2 (gR 2) (gR 4) WA)<|gV 5)
noncomputable abbrev Kx:List Str:=["_law_dance_here","_law_dancers","_law_numbers","_law_places","_law_k","_law_place","_law_choices"]
def jw:aC:=(sq (AJ 3<|zK 1 (iT<|b2 (gR 0) (zM 1) WA) (gN 7) (λ_=>some true) Ki)<|sq (zn (ZU<|b2 (gR 0) (zM 1) WA) (gT 2<|UD (gN 4)<|UD (gN 5) vF) yz)<|wF<|λρ=>((zC (b2 (gR 0) (zM 0) WA)<|zC (b1 (gR 3) tK) zN) ρ).map D.tup)
def qm(ds:List D):Option D:=AI Kx jw ds
noncomputable abbrev Mg:List Str:=["_law_move","_law_dancers"]
def xh:aC:=(wF<|λρ=>((zC (b2 (gR 0) (zM 0) WA)<|zC (b2 (gR 1) (b2 (gR 0) (zM 1) WA) WA)<|zC (b2 (gR 1) (b2 (gR 0) (zM 2) WA) WA)<|zC (b2 (gR 0) (zM 3) WA) zN) ρ).map D.tup)
def qQ(ds:List D):Option D:=AI Mg xh ds
def qo:dC:=(b2 (gR 6) (zM 0) WA)
def qp:dC:=(b2 (gR 6) (zM 0) WA)
def yr:dC:=(IK (gR 6) (oI<|zM 2) (λ_=>some none) VJ)
def yt:dC:=(IK (gR 6) (oI<|zM 2) (λ_=>some none) VJ)
def qr:aC:=(sq (qF 4<|λρ=>(((zC (gV 0)<|zC (gV 3) zN) ρ).bind za).bind A1)<|sq (qF 5<|λρ=>(((zC (gV 1)<|zC (b2 (gR 2) (gR 3) WA) zN) ρ).bind za).bind A1)<|nG (QY (bB<|b2 (λρ=>((cP 1 (iT<|gV 4) (gN 6) (λ_=>some true) qo) ρ).map D.lst) (λρ=>((cP 1 (iT<|gV 5) (gN 6) (λ_=>some true) qp) ρ).map D.lst) EG)<|bB<|b2 (λρ=>((cP 1 (iT<|gV 4) (gN 6) (λ_=>some true) yr) ρ).map D.lst) (λρ=>((cP 1 (iT<|gV 5) (gN 6) (λ_=>some true) yt) ρ).map D.lst) EG) (wF<|λ_=>some<|D.bl false)<|λρ=>some<|Out.nx ρ)
noncomputable abbrev Km:List Str:=["_law_dance_here","_law_other","_law_dancers","_law_dancer","_law_one","_law_two"]
def jc:aC:=(sq (zn (UJ<|zC (b2 (gR 0) (zM 0) WA) zN) (gN 3) qr)<|wF<|λ_=>some<|D.bl true)
def yl(ds:List D):Option D:=AI Km jc ds
def As(C:Addr):dC:=(b2 (zM 1) (gR 10) qG)
def W5(C:Addr):dC:=(λρ=>((zC (gV 10)<|zC (gV 2) zN) ρ).bind qQ)
def Qu(C:Addr):aC:=(sq (qF 8<|WJ C "moves" 5 zN<|tO C)<|sq (nG (bB<|b2 (λρ=>((QO (λρ=>((zK 1 (iT<|gV 8) (gN 10) (λ_=>some true)<|W5 C) ρ).map D.lst) EN) ρ).map D.lst) (λρ=>((QO (WJ C "moves" 6 zN<|tO C) EN) ρ).map D.lst) EG) (wF<|λ_=>some<|D.bl false)<|λρ=>some<|Out.nx ρ)<|nG (QQ<|gR 8) (sq (qF 9<|b2 (gR 8) (λρ=>((zC (gV 7)<|zC (zM 9829)<|zC (b1 (gR 8) cH) zN) ρ).bind zP) WA)<|sq (KQ C "do" 5 (zC (gV 9) zN)<|pW C)<|KQ C "do" 6 (zC (λρ=>((zC (gV 9)<|zC (gV 2) zN) ρ).bind qQ) zN)<|pW C)<|λρ=>some<|Out.nx ρ)
def zUK(C:Addr):aC:=(wF<|λρ=>((zC (gV 1)<|zC (gV 4)<|zC (gV 2) zN) ρ).bind yl)
def zUL(C:Addr):aC:=(sq (zn (iL<|λρ=>((IK (gR 0) (oI<|zM 7) (oI<|zM 30) Zn) ρ).map D.lst) (gN 7)<|Qu C)<|zUK C)
def zUM(C:Addr):aC:=(sq (nG (QY (E8 5)<|E8 6) (wF<|jS (b2 (gR 5) (λ_=>some D.non) Hx)<|b2 (gR 6) (λ_=>some D.non) Hx)<|λρ=>some<|Out.nx ρ)<|zUL C)
def zUN(C:Addr):aC:=(sq (eQ 6 (zC (gV 4) zN)<|yJ C)<|zUM C)
def zUO(C:Addr):aC:=(sq (eQ 5 (zC (gV 1) zN)<|yJ C)<|zUN C)
def zUP(C:Addr):aC:=(sq (nG (bB<|b2 (gR 4) (λρ=>((zC (gV 1)<|zC (gV 2)<|zC (gV 3) zN) ρ).bind qm) EG) (wF<|λ_=>some<|D.bl false)<|λρ=>some<|Out.nx ρ)<|zUO C)
def zQx(C:Addr):aC:=(sq (qF 4<|λρ=>((zC (gV 1)<|zC (gV 2)<|zC (gV 3) zN) ρ).bind d5)<|zUP C)
def zQy(C:Addr):aC:=(sq (qF 3<|b2 (λρ=>((zC (zM 0) zN) ρ).map D.tup) (b1 (λρ=>((zK 1 (iT<|λρ=>((zC (λρ=>((zC (gV 0)<|zC (zM 6) zN) ρ).bind zb)<|zC (b2 (b1 (b2 (gR 1) (zM 1) WA) cH) (zM 1) OK) zN) ρ).bind qE) (gN 10) (λ_=>some true)<|As C) ρ).map D.lst) tK) qG)<|zQx C)
def zLW(C:Addr):aC:=(sq (qF 2<|λρ=>((zC (λρ=>((zC (gV 0)<|zC (zM 5) zN) ρ).bind zb)<|zC (b2 (gR 1) (zM 0) WA) zN) ρ).bind qE)<|zQy C)
noncomputable abbrev Tv:List Str:=["_law_script","_law_dance_here","_law_dancers","_law_numbers","_law_other","_law_hall_here","_law_two","_law_cell_here","_law_moves","_law_move"]
def zWs(C:Addr):aC:=(sq (qF 1<|λρ=>((zC (gV 0) zN) ρ).bind q8)<|sq (nG (bB<|b2 (b2 (λρ=>((zC (gV 0)<|zC (zM 4) zN) ρ).bind zb) (zM 3) jM) (zM 0) AE) (qF 1<|λρ=>((zC (gV 1)<|zC (b2 (λρ=>((zC (gV 0)<|zC (zM 4) zN) ρ).bind zb) (zM 3) Sm) zN) ρ).bind qW)<|λρ=>some<|Out.nx ρ)<|zLW C)
def R0(C:Addr)(ds:List D):Option D:=AI Tv (zWs C) ds
end K11
namespace K11
open PySem L2 RD LG K06
theorem j7{α:Type}{r:α->α->Prop}(as:∀a b,r a b->¬ r b a):∀{l I:List α},l.Pairwise r->I.Pairwise r->(∀x,x∈l↔x∈I)->l=I
 | [],[],_,_,_=>rfl
 | [],y::I,_,_,h=>absurd ((h y).mpr gA) (by simp)
 |x::l,[],_,_,h=>absurd ((h x).mp gA) (by simp)
 |x::l,y::I,p,q,h=>by
  obtain⟨p1,p2⟩:=MA.mp p;obtain⟨q1,J⟩:=MA.mp q
  have e:x=y:=by
   rcases lA.mp ((h x).mp gA) with e|hx
   .show e
   .rcases lA.mp ((h y).mpr gA) with e|hy
    .show e.symm
    .show absurd (p1 y hy)<|as _ _<|q1 x hx
  subst e;rw[j7 as p2 J λz=>⟨λhz=>?_,λhz=>?_⟩]
  .rcases lA.mp ((h z).mp<|bA _ hz) with e|Ht
   .subst e;show absurd (p1 z hz) (λw=>as _ _ w w)
   .show Ht
  .rcases lA.mp ((h z).mpr<|bA _ hz) with e|Ht
   .subst e;show absurd (q1 z hz) (λw=>as _ _ w w)
   .show Ht
noncomputable def uH(π ν:Int->Int):Pl->Pl
 |.fin=>.fin
 |.tell a b ch=>.tell (π a) (π b) (ch.map λq=>(q.1,ν q.2))
abbrev Bw(N k:Int):Prop:=0<=k/\k<N
structure Rn(m:Int)(ps qs:List Pl)(π ν:Int->Int):Prop where
 dn:yn m ps
 dn':yn m qs
 ln:qs.length=ps.length
 pl:∀k:Int,Bw ps.length k->qs[(ν k).toNat]?=ps[k.toNat]?.map (uH π ν)
 nb:∀k:Int,Bw ps.length k->Bw ps.length (ν k)
 ni:∀j k:Int,Bw ps.length j->Bw ps.length k->ν j=ν k->j=k
 n0:ν 0=0
 pb:∀d:Int,Bw m d->Bw m (π d)
 pi:∀d e:Int,Bw m d->Bw m e->π d=π e->d=e
section
variable {m:Int}{ps qs:List Pl}{π ν:Int->Int}(H:Rn m ps qs π ν)
include H
theorem Rn.dp(hd:Bw m d)(he:Bw m e):decide (π d=π e)=decide (d=e):=decide_eq_decide.mpr ⟨H.pi _ _ hd he,congrArg π⟩
theorem zRz{P:Int->Prop}(hp:mJ m P p)(hd:Bw m d):tp (uH π ν p) (π d)=tp p d:=by
 cases p with
 |fin=>rfl
 |tell a b ch=>
  have ok:RM m P a b ch:=hp;change(decide (π d=π a) || decide (π d=π b))=_;rw[H.dp hd ⟨ok.a0,ok.a1⟩,H.dp hd ⟨ok.b0,ok.b1⟩];rfl
theorem zOy(p:Pl):tH (uH π ν p)=(tH p).map λq=>(q.1,ν q.2):=by cases p<;>rfl
theorem zQz(hd:Bw m d)(j:Bw ps.length n):SL qs (π d) (ν n)=(SL ps d n).map ν:=by
 unfold SL;rw[H.pl n j]
 cases e:ps[n.toNat]? with
 |none=>rfl
 |some p=>
  dsimp[wA];rw[zRz H (H.dn.ok p<|xA e) hd];split
  .rfl
  .rw[zOy H,JA,JA];rfl
theorem Au{l:List Int}(z:Bw ps.length n)(j:TH ps l):ν n∈l.map ν↔n∈l:=by
 constructor
 .intro h;obtain⟨k,hk,e⟩:=LA.mp h;rw[<- H.ni _ _ (j k hk) z e];show hk
 .showλh=>IB h
theorem Qv(hd:Bw m d):∀(k:Nat)(found ws:List Int),TH ps found->TH ps ws->LG.run qs (π d) k (found.map ν) (ws.map ν)=(LG.run ps d k found ws).map (uJ ν)
 |0,_,_,_,_=>rfl
 |k+1,found,ws,hf,hw=>by
  unfold LG.run;rw[List.getLast?_map]
  cases e:ws.getLast? with
  |none=>rfl
  |some n=>
   have j:Bw ps.length n:=hw n<|List.mem_of_getLast? e;have I:TH ps ws.dropLast:=λx hx=>hw x<|List.dropLast_subset _ hx
   dsimp[wA];by_cases c:n∈found
   .rw[if_pos c,if_pos<|(Au H j hf).mpr c,<- vJ];show Qv hd k _ _ hf I
   .rw[if_neg c,if_neg<|λz=>c<|(Au H j hf).mp z,zQz H hd j,<- vJ,<- UA,show found.map ν++[ν n]=(found++[n]).map ν by simp];refine Qv hd k _ _ (λx hx=>?_) λx hx=>?_
    .rcases nA.mp hx with hx|hx
     .show hf x hx
     .rw[jA.mp hx];show j
    .rcases nA.mp hx with hx|hx
     .show I x hx
     .show(Qm H.dn d n).1 x hx
end
theorem zWu{ps:List Pl}{d z:Int}{f:List Int}(hf:∀x∈f,∀y∈SL ps d x,y∈f):∀{j:Nat}{s:Int},s∈f->Rc ps d j s z->z∈f
 |0,s,hs,h=>by rw[<- show s=z from h];show hs
 |j+1,s,hs,h=>by
  obtain⟨y,hy,h⟩:=h;show zWu hf (hf s hs y hy) h
theorem Tw(a b:Int)(h:a<b):¬ b<a:=01
theorem zQ0{m:Int}{ps:List Pl}(h:yn m ps)(d:Int){S I:List Int}(hs:TH ps S)(hl:S.length<=100)(Y:I.length<=100)(e:∀x,x∈S↔x∈I):GD ps d S=GD ps d I:=by
 have Z:TH ps I:=λx hx=>hs x<|(e x).mpr hx
 obtain⟨f,J,_,_⟩:=Ao h d S hs hl;obtain⟨U,O,_,_⟩:=Ao h d I Z Y
 have go:∀{S I f U:List Int},(∀x,x∈I->x∈S)->LG.run ps d 300 [] S>f->LG.run ps d 300 [] I>U->∀x∈U,x∈f:=λe J O x hx=>by
  obtain⟨_,b,c⟩:=Sk 300 [] _ _ J;rcases Sj 300 [] _ _ O x hx with z|⟨s,hs,j,r⟩
  .cases z
  .show zWu (λx hx=>c x hx<|λz=>nomatch z) (b s<|e s hs) r
 refine j7 Tw (bS h d hs hl).1.up (bS h d Z Y).1.up λx=>?_
 unfold GD;rw[J,O];dsimp[GG,qk];show⟨go (λx hx=>(e x).mp hx) O J x,go (λx hx=>(e x).mpr hx) J O x⟩
end K11
namespace K11
open PySem L2 RD LG K06
theorem zJM(x:Int):∀l:List Int,(FM x l).Perm (x::l)
 | []=>.refl _
 |y::l=>by
  unfold FM;split
  .show .refl _
  .show((zJM x l).cons y).trans (.swap x y l)
theorem S9:∀l:List Int,(sL l).Perm l
 | []=>.refl _
 |x::l=>(zJM x _).trans<|(S9 l).cons x
def im(ν:Int->Int)(K:List Int):List Int:=sL<|K.map ν
noncomputable def k7(π:Int->Int):Ask->Ask
 |.fin=>.fin
 |.tells b ws=>.tells (π b) ws
 |.hears a=>.hears<|π a
section
variable {m:Int}{ps qs:List Pl}{π ν:Int->Int}(H:Rn m ps qs π ν)
include H
theorem Rn.inn{S:List Int}(hs:TH ps S):TH qs (S.map ν):=λx hx=>by
 obtain⟨k,hk,rfl⟩:=LA.mp hx;rw[H.ln];show H.nb k<|hs k hk
theorem Rn.nd{S:List Int}(hs:TH ps S)(h:S.Nodup):(S.map ν).Nodup:=by
 induction S with
 |nil=>show .nil
 |cons x S ih=>
  obtain⟨h1,h2⟩:=OB.mp h;have j:TH ps S:=λy hy=>hs y<|bA _ hy
  show OB.mpr ⟨λz=>h1<|(Au H (hs x gA) j).mp z,ih j h2⟩
theorem zOz(hd:Bw m d){S I:List Int}(hs:TH ps S)(O:S.length<=100)(p:I.Perm (S.map ν)):GD qs (π d) I=im ν (GD ps d S):=by
 have l2:(S.map ν).length<=100:=by rw[iA];show O
 rw[<- zQ0 H.dn' (π d) (H.inn hs) l2 (by rw[p.length_eq];show l2) λx=>p.mem_iff.symm];obtain⟨f,z,_,_⟩:=Ao H.dn d S hs O;have J:=Qv H hd 300 [] S (λ_ h=>nomatch h) hs;rw[z]at J;obtain⟨U,i2⟩:=Bm H.dn d 300 [] S f (λ_ h=>nomatch h) .nil hs z;have Y:GD ps d S=sL f:=by simp[GD,z]
 have Z:GD qs (π d) (S.map ν)=sL (f.map ν):=by rw[GD,show LG.run qs (π d) 300 [] (S.map ν)>f.map ν from J];rfl
 rw[Y,Z];unfold im;refine j7 Tw (Aq<|H.nd U i2) (Aq<|H.nd (λn hn=>U n<|qk.mp hn)<|(S9 f).nodup_iff.mpr i2) λx=>?_
 rw[qk,qk,((S9 f).map ν).mem_iff]
theorem zUS{P:Int->Prop}(hp:mJ m P p)(hd:Bw m d):MP (uH π ν p) (π d)=MP p d:=by
 have:=zRz H hp hd
 cases p with
 |fin=>rfl
 |tell a b ch=>show this
theorem zJN(hd:Bw m d):∀{K:List Int},TH ps K->turns qs (π d) (K.map ν)=(turns ps d K).map (uH π ν)
 | [],_=>rfl
 |n::K,h=>by
  have ih:=zJN hd (K:=K) λx hx=>h x<|bA _ hx
  have j:=h n gA;unfold turns LQ at ih|-;obtain⟨p,hp,e,_⟩:=Cn j.1 j.2;have e':qs[(ν n).toNat]?>uH π ν p:=by rw[H.pl n j,e];rfl
  rw[eA,pM (f:=λn:Int=>qs[n.toNat]?) e',pM (f:=λn:Int=>ps[n.toNat]?) e,xD,xD,zUS H (H.dn.ok p hp) hd,ih];split<;>rfl
theorem U9(hd:Bw m d)(hk:TH ps K):(turns qs (π d)<|im ν K).Perm ((turns ps d K).map<|uH π ν):=by
 rw[<- zJN H hd hk];show((S9 _).filterMap _).filter _
theorem X5{P:Int->Prop}(hp:mJ m P p)(hd:Bw m d):ask (uH π ν p) (π d)=k7 π (ask p d):=by
 cases p with
 |fin=>rfl
 |tell a b ch=>
  have ok:RM m P a b ch:=hp;change(if π a=π d then Ask.tells (π b) ((ch.map λq=>(q.1,ν q.2)).map (·.1)) else .hears (π a))=k7 π (if a=d then .tells b (ch.map (·.1)) else .hears a);by_cases c:a=d
  .rw[if_pos c,if_pos<|congrArg π c,JA];rfl
  .rw[if_neg c,if_neg λz=>c<|H.pi _ _ ⟨ok.a0,ok.a1⟩ hd z];rfl
theorem zUT{P:Int->Prop}(hp:mJ m P p)(hq:mJ m P q)(hd:Bw m d)(h:k7 π (ask p d)=k7 π (ask q d)):ask p d=ask q d:=by
 have j:∀{p:Pl},mJ m P p->(∀b ws,ask p d=.tells b ws->Bw m b)/\∀a,ask p d=.hears a->Bw m a:=λ{p} hp=>by
  cases p with
  |fin=>show⟨λ_ _ h=>(nomatch h),λ_ h=>(nomatch h)⟩
  |tell a b ch=>
   have ok:RM m P a b ch:=hp;unfold LG.ask;by_cases c:a=d
   .dsimp[c,if_true];show⟨λ_ _ h=>(by cases h;show⟨ok.b0,ok.b1⟩),λ_ h=>(nomatch h)⟩
   .dsimp[c,if_false];show⟨λ_ _ h=>(nomatch h),λ_ h=>(by cases h;show⟨ok.a0,ok.a1⟩)⟩
 have r1:=j hp;have r2:=j hq;generalize ask p d=x at *;generalize ask q d=y at *;cases x<;>cases y<;>dsimp[k7,Ask.tells.injEq,Ask.hears.injEq,reduceCtorEq]at h ⊢
 .show⟨H.pi _ _ (r1.1 _ _ rfl) (r2.1 _ _ rfl) h.1,h.2⟩
 .show H.pi _ _ (r1.2 _ rfl) (r2.2 _ rfl) h
end
theorem V9:PL ps d K=true↔∀t∈turns ps d K,∀u∈turns ps d K,ask t d=ask u d:=by
 unfold PL
 cases turns ps d K with
 |nil=>simp
 |cons t ts=>
  dsimp[dE,decide_eq_true_eq];show⟨λh a ha b hb=>(h a ha).trans (h b hb).symm,λh u j=>h u j t gA⟩
section
variable {m:Int}{ps qs:List Pl}{π ν:Int->Int}(H:Rn m ps qs π ν)
include H
theorem zO0(hd:Bw m d)(hk:TH ps K):PL qs (π d) (im ν K)=PL ps d K:=by
 have p:=U9 H hd hk;refine AF.mpr<|V9.trans<|Iff.trans ?_ V9.symm;constructor
 .intro h t j u z;have:=h (uH π ν t) (p.mem_iff.mpr<|IB j) (uH π ν u)<|p.mem_iff.mpr<|IB z;rw[X5 H (qM H.dn j) hd,X5 H (qM H.dn z) hd]at this;show zUT H (qM H.dn j) (qM H.dn z) hd this
 .intro h t j u z;obtain⟨t,I,rfl⟩:=LA.mp<|p.mem_iff.mp j;obtain⟨u,J,rfl⟩:=LA.mp<|p.mem_iff.mp z;rw[X5 H (qM H.dn I) hd,X5 H (qM H.dn J) hd,h t I u J]
theorem zR0(hd:Bw m d)(hk:TH ps K):(DJ qs (π d)<|im ν K).Perm ((DJ ps d K).map λq=>(q.1,ν q.2)):=by
 have p:=(U9 H hd hk).flatMap_right tH
 have e:∀l:List Pl,(l.map<|uH π ν).flatMap tH=(l.flatMap tH).map λq=>(q.1,ν q.2):=λl=>by
  induction l with
  |nil=>rfl
  |cons x l ih=>rw[eA,dB,dB,UA,zOy H,ih]
 rw[e]at p;show p
theorem zJO(hd:Bw m d)(hk:TH ps K):yi qs (π d) (im ν K)=yi ps d K:=by
 refine j7 (λa b h k=>Lt.irrefl<|h.trans k) (L4<|Z4 _) (L4<|Z4 _) λw=>?_
 rw[qX,qX,vX,vX];have p:=zR0 H hd hk;constructor
 .rintro⟨q,hq,rfl⟩;obtain⟨r,hr,rfl⟩:=LA.mp<|p.mem_iff.mp hq;show⟨r,hr,rfl⟩
 .rintro⟨q,hq,rfl⟩;show⟨_,p.mem_iff.mpr<|IB hq,rfl⟩
theorem zLX(hf:kJ ps)(hd:Bw m d)(hk:oJ ps K)(ha:PL ps d K=true)(j:w∈yi ps d K):MQ qs (π d) (im ν K) w=im ν (MQ ps d K w):=by
 obtain⟨_,i,l⟩:=Qp H.dn hf hd hk ha w<|qX.mp j;refine zOz H hd i 01 ?_;unfold sel;refine(((zR0 H hd hk.inn).filter _).map _).trans (.of_eq ?_);rw[List.filter_map,JA,JA];rfl
end
end K11
namespace K11
open PySem L2 RD LG K06
section
variable {m:Int}{ps qs:List Pl}{π ν:Int->Int}(H:Rn m ps qs π ν)
include H
theorem Rw(hk:TH ps K)(hx:Bw ps.length x):ν x∈im ν K↔x∈K:=by
 unfold im;rw[qk];show Au H hx hk
theorem zR1(hk:oJ ps K)(z:oJ ps K')(e:im ν K=im ν K'):K=K':=by
 have go:∀{K K':List Int},oJ ps K->oJ ps K'->im ν K=im ν K'->∀x,x∈K->x∈K':=λhk z e x hx=>
  (Rw H z.inn<|hk.inn x hx).mp (e ▸ (Rw H hk.inn<|hk.inn x hx).mpr hx)
 show j7 Tw hk.up z.up λx=>⟨go hk z e x,go z hk e.symm x⟩
theorem Qw(hd:Bw m d)(j:Bw ps.length n):GD qs (π d) [ν n]=im ν (GD ps d [n]):=
 zOz H hd (λx hx=>by rw[jA.mp hx];show j) (by simp) (.refl _)
theorem Rx(j:Bw ps.length n):oJ ps (GD ps d [n]):=
 (bS H.dn d (λx hx=>by rw[jA.mp hx];show j)<|by simp).1
theorem i5(hd:Bw m d)(hk:TH ps K):turns qs (π d) (im ν K)=[]↔turns ps d K=[]:=by
 have p:=(U9 H hd hk).length_eq;rw[iA]at p;rw[<- YB,p,YB]
theorem zUU(hd:Bw m d)(hk:oJ ps K):vS qs (π d) (im ν K)↔vS ps d K:=by
 unfold vS;rw[zO0 H hd hk.inn,Ne,i5 H hd hk.inn];refine or_congr Iff.rfl (and_congr Iff.rfl ⟨λ⟨n,j,z⟩=>?_,λ⟨n,j,z⟩=>⟨ν n,(Rw H hk.inn<|hk.inn n j).mpr j,?_⟩⟩)
 .unfold im at j;obtain⟨n,I,rfl⟩:=LA.mp<|qk.mp j;rw[Qw H hd<|hk.inn n I,i5 H hd (Rx H<|hk.inn n I).inn]at z;show⟨n,I,z⟩
 .rw[Qw H hd<|hk.inn n j,i5 H hd (Rx H<|hk.inn n j).inn];show z
theorem zUV{Ks:List (List Int)}(h:∀K∈Ks,oJ ps K)(j:oJ ps N):CI (Ks.map<|im ν) (im ν N)=(CI Ks N).map (im ν):=by
 unfold CI;by_cases c:N∈Ks
 .rw[if_pos c,if_pos<|IB c]
 .rw[if_neg c,if_neg λz=>?_,UA];rfl;obtain⟨K,hK,e⟩:=LA.mp z;show c<|zR1 H (h K hK) j e ▸ hK
theorem zR2(j:oJ ps N):∀{Ks:List (List Int)},(∀K∈Ks,oJ ps K)->EM (Ks.map<|im ν) (im ν N)=EM Ks N
 | [],_=>rfl
 |K::Ks,h=>by
  rw[eA];unfold EM;by_cases c:K=N
  .rw[if_pos c,if_pos<|congrArg _ c]
  .rw[if_neg c,if_neg λz=>c<|zR1 H (h K gA) j z,zR2 j λK hK=>h K<|bA _ hK]
theorem zLY(hf:kJ ps)(hd:Bw m d)(hk:oJ ps K)(ha:PL ps d K=true)(j:w∈yi ps d K):oJ ps (MQ ps d K w):=by
 obtain⟨_,i,l⟩:=Qp H.dn hf hd hk ha w<|qX.mp j;show(bS H.dn d i<|01).1
theorem zO3(hf:kJ ps)(hd:Bw m d)(hk:oJ ps K)(ha:PL ps d K=true):∀(ws:List Str)(Ks:List (List Int)),(∀w∈ws,w∈yi ps d K)->(∀K∈Ks,oJ ps K) ->
  ws.foldl (λKs w=>CI Ks<|MQ qs (π d) (im ν K) w) (Ks.map<|im ν)=(ws.foldl (λKs w=>CI Ks<|MQ ps d K w) Ks).map (im ν)/\∀K'∈ws.foldl (λKs w=>CI Ks<|MQ ps d K w) Ks,oJ ps K'
 | [],Ks,_,h=>⟨rfl,h⟩
 |w::ws,Ks,hw,h=>by
  have j:=hw w gA;have z:=zLY H hf hd hk ha j;rw[JC,JC,zLX H hf hd hk ha j,zUV H h z];refine zO3 hf hd hk ha ws _ (λv hv=>hw v<|bA _ hv) λK' RJ=>?_
  unfold CI at RJ;split at RJ
  .show h K' RJ
  .rcases nA.mp RJ with RJ | RJ
   .show h K' RJ
   .rw[jA.mp RJ];show z
theorem zLZ(hf:kJ ps)(hd:Bw m d):∀(n i:Nat)(Ks:List (List Int)),(∀K∈Ks,oJ ps K)->JN qs (π d) n i (Ks.map<|im ν)=(JN ps d n i Ks).map (uJ<|im ν)
 |0,_,_,_=>rfl
 |n+1,i,Ks,h=>by
  unfold JN;rw[CA]
  cases e:Ks[i]? with
  |none=>rfl
  |some K=>
   have hK:=h K<|xA e;dsimp[wA];have b:=zUU H hd hK;by_cases c:vS ps d K
   .rw[if_pos c,if_pos<|b.mpr c];rfl
   .have ha:PL ps d K=true:=by
     cases z:PL ps d K with
     |true=>rfl
     |false=>show absurd (.inl z) c
    rw[if_neg c,if_neg λz=>c<|b.mp z];obtain⟨a1,a2⟩:=zO3 H hf hd hK ha (yi ps d K) Ks (λ_ h=>h) h;unfold Bp;rw[zJO H hd hK.inn,a1];show zLZ hf hd n (i+1) _ a2
end
noncomputable def vK(π:Int->Int):LG.St->LG.St
 |.act t o prs=>.act t (π o) prs
 |s=>s
section
variable {m:Int}{ps qs:List Pl}{π ν:Int->Int}(H:Rn m ps qs π ν)
include H
theorem zWw(hf:kJ ps)(hd:Bw m d){Ks:List (List Int)}(I:IsPart ps d Ks)(hK:K∈Ks):EJ qs (π d) (Ks.map<|im ν) (im ν K)=vK π (EJ ps d Ks K):=by
 have hk:=I.st K hK;have ha:=I.al K hK
 have O:WM qs (π d) (Ks.map<|im ν) (im ν K)=WM ps d Ks K:=by
  unfold WM;rw[zJO H hd hk.inn];show nB λw z=>by rw[zLX H hf hd hk ha z,zR2 H (zLY H hf hd hk ha z) I.st]
 have p:=U9 H hd hk.inn;unfold EJ;rw[O]
 cases e:turns ps d K with
 |nil=>rw[(i5 H hd hk.inn).mpr e];rfl
 |cons t ts=>
  cases e':turns qs (π d) (im ν K) with
  |nil=>rw[(i5 H hd hk.inn).mp e']at e;cases e
  |cons t' S=>
   have m1:t'∈turns qs (π d) (im ν K):=by rw[e'];show gA
   obtain⟨u,j,rfl⟩:=LA.mp<|p.mem_iff.mp m1;have J:t∈turns ps d K:=by rw[e];show gA
   simp only;rw[X5 H (qM H.dn j) hd,V9.mp ha u j t J];cases LG.ask t d<;>rfl
theorem zQ1(hf:kJ ps)(U:kJ qs)(hd:Bw m d):(za [uB m ps,.int d]>.error 0/\za [uB m qs,.int<|π d]>.error 0) \/
  ∃Ks,IsPart ps d Ks/\IsPart qs (π d) (Ks.map<|im ν)/\za [uB m ps,.int d]>(.ok<|P6 ps d Ks)/\za [uB m qs,.int<|π d]>(.ok<|P6 qs (π d)<|Ks.map<|im ν)/\(Ks.map<|im ν).map (EJ qs (π d)<|Ks.map<|im ν)=(Ks.map<|EJ ps d Ks).map (vK π):=by
 have O:=H.pb d hd;have z:Bw ps.length 0:=⟨Int.le_refl _,by have:=H.dn.n0;omega⟩
 have e:=zLZ H hf hd 20000000 0 [GD ps d [0]] λK hK=>by rw[jA.mp hK];show Rx H z
 rw[pP,<- Qw H hd z,H.n0]at e;have h1:=Po (m:=m) (ps:=ps) (d:=d) ⟨H.dn,hf,hd.1,hd.2⟩;have h2:=Po (m:=m) (ps:=qs) (d:=π d) ⟨H.dn',U,O.1,O.2⟩;rw[e]at h2;generalize JN ps d 20000000 0 [GD ps d [0]]=x at h1 h2;rcases h1 with⟨rfl,j⟩|⟨Ks,rfl,I,j⟩
 .rcases h2 with⟨_,J⟩|⟨_,z,_⟩
  .show .inl ⟨j,J⟩
  .cases z
 .rcases h2 with⟨z,_⟩|⟨Y,z,S,J⟩
  .cases z
  .cases z;refine .inr ⟨Ks,I,S,j,J,?_⟩;rw[JA,JA];show nB λK hK=>zWw H hf hd I hK
end
end K11
namespace K11
open PySem L2 RD LG K06
noncomputable def up(n:Nat):List Int:=(uA n).map λ(i:Nat)=>(i:Int)
theorem zHG{α:Type}:∀{l:List α}{i:Nat}(h:i<l.length),(l[i]::l.eraseIdx i).Perm l
 | [],_,h=>absurd h<|cU _
 |x::l,0,_=>.refl _
 |x::l,i+1,h=>(HJ _ _ _).trans<|(zHG<|Nat.lt_of_succ_lt_succ h).cons x
theorem zO4{α j:Type}(f:α->j)(l:List α)(i:Nat):(l.map f).eraseIdx i=(l.eraseIdx i).map f:=by
 rw[sD,sD,UA,EW,DW]
theorem zLa(c:Int)(n:Nat)(O:n<=1000):∀(k j:Nat)(left:List Int),left.length=k->j+k=n->∃out:List Int,out.Perm left/\CT (gN 3) 2 yy ((List.range' j k).map λ(i:Nat)=>D.int<|0+(i:Int)) [!.int c,!.int n,.l<|left.map D.int,.un]>out.map D.int
 |0,j,left,hl,_=>⟨[],by rw[YB.mp hl],rfl⟩
 |k+1,j,left,hl,hj=>by
  obtain⟨y,hy⟩:∃y:Int,0+(j:Int)=y:=⟨_,rfl⟩
  have pos:(0:Int)<(n:Int)-y:=01
  have m0:=yp (c+5*y) 9811 pos;have m1:=yq (c+5*y) 9811 pos;have em:=tL (c:=c+5*y) (p:=9811) 02 pos;generalize GE (c+5*y) 9811 ((n:Int)-y)=x at m0 m1 em;have hx:x.toNat<left.length:=01
  obtain⟨out,po,J⟩:=zLa c n O k (j+1) (left.eraseIdx x.toNat) (by rw[List.length_eraseIdx_of_lt hx];omega) 01;refine⟨left[x.toNat]::out,(po.cons _).trans<|zHG hx,?_⟩
  have z:yy [!.int c,!.int n,.l<|left.map D.int,!.int y]>.int x:=by
   have a1:iQ (.int 5) (.int y)>(.int<|5*y):=by
    change(if (-(2 ^ 64)<(5:Int)/\(5:Int)<2 ^ 64)\/(-(2 ^ 64)<y/\y<2 ^ 64) then some (D.int<|5*y) else none)=_;show if_pos (.inl<|02)
   exists 0,yy,a1,em,NF,VH,WA
  have I:dY 2 yy [!.int c,!.int n,.l<|left.map D.int,!.int y]>(.int left[x.toNat],(left.eraseIdx x.toNat).map D.int):=by
   unfold dY;dsimp[CB,jB,z,dA,iA];rw[if_pos<|01,CA,VA hx,zO4];rfl
  rw[List.range'_succ,eA,CT,hy];change(some [Sl.v<|.int c,!.int n,.l<|left.map D.int,!.int y]).bind _=_;rw[dA,I,dA];change(CT (gN 3) 2 yy _ [!.int c,!.int n,.l<|(left.eraseIdx x.toNat).map D.int,.un]).map _=_;rw[J];rfl
theorem zR3(c:Int)(z:n<=1000):∃l:List Int,l.Perm (up n)/\qE [.int c,.int n]>(.tup<|l.map D.int):=by
 obtain⟨out,po,j⟩:=zLa c n z n 0 (up n) (by simp[up]) 01;rw[<- List.range_eq_range']at j;refine⟨out,po,?_⟩
 have r1:rng 0 n=(up n).map D.int:=by
  unfold rng up;rw[JA];show nB λi _=>by rw[jE];rfl
 have I:(rng 0 n).length=n:=Qo 0 n
 have s1:AJ 2 (h7<|zC (gV 1) zN) [!.int c,!.int n,.un]>.nx [!.int c,!.int n,.l<|(up n).map D.int]:=by
  have:h7 (zC (gV 1) zN) [!.int c,!.int n,.un]>rng 0 n:=by
   unfold h7;rw[FQ (n:=n) rfl<|01,dA,if_pos<|01]
  unfold AJ;rw[this,r1];rfl
 refine QV<|(zl s1).trans ?_;unfold Tg Rh;rw[FQ (n:=n) rfl<|01,dA,if_pos<|01];change gC _ (CT (gN 3) 2 yy (rng 0 n) [!.int c,!.int n,.l<|(up n).map D.int,.un])=_;rw[show rng 0 n=(uA n).map λ(i:Nat)=>D.int (0+(i:Int)) from rfl,j];rfl
noncomputable def gi(l:List Int)(k:Int):Int:=l.getD k.toNat 0
theorem zR4:x∈up n↔Bw n x:=by
 unfold up;dsimp[LA,wB];show⟨λ⟨i,h,e⟩=>by subst e;show⟨01,01⟩,λh=>⟨x.toNat,01,01⟩⟩
theorem X3(n:Nat):(up n).Nodup:=by
 unfold up;refine E7 _ (λa b h=>?_)<|List.nodup_range (n:=n);omega
section
variable {n:Nat}{l:List Int}(p:l.Perm (up n))
include p
theorem SV:l.length=n:=by rw[p.length_eq];simp[up]
theorem Tx:l.Nodup:=p.nodup_iff.mpr<|X3 n
theorem cS{k:Int}(hk:Bw n k):l[k.toNat]?>gi l k:=by
 have h:k.toNat<l.length:=by rw[SV p];omega
 unfold gi;rw[WC,VA h];rfl
theorem dO(hk:Bw n k):Bw n (gi l k):=zR4.mp<|p.mem_iff.mp<|xA<|cS p hk
theorem TQ(z:Bw n j)(hk:Bw n k)(e:gi l j=gi l k):j=k:=by
 have h1:=cS p z;have h2:=cS p hk;rw[e]at h1;have:=(tJ (by rw[SV p];omega)<|Tx p).mp<|h1.trans h2.symm;omega
theorem DU(hi:Bw n i):∃k,Bw n k/\gi l k=i:=by
 obtain⟨k,hk,e⟩:=iD.mp<|p.mem_iff.mpr<|zR4.mpr hi;have j:=hk;rw[SV p]at j;refine⟨k,⟨01,01⟩,?_⟩;have:=cS p (k:=(k:Int)) ⟨01,01⟩;rw[rB,VA hk,e]at this;show(DB this).symm
theorem OQ(hk:Bw n k):WA (.tup<|l.map D.int) (.int k)>(.int<|gi l k):=by
 have h:=SV p
 have e:NF (l.map D.int) k>(.int<|gi l k):=by
  rw[show k=((k.toNat:Nat):Int) by omega];refine jT ?_;rw[CA,cS p hk,show((k.toNat:Nat):Int)=k by omega];rfl
 dsimp[WA,e]
end
end K11
namespace K11
open PySem L2 RD LG K06
def PF(dl nl:List Int)(ps:List Pl):List Pl:=(uA ps.length).map λ(i:Nat)=>uH (gi dl) (gi nl)<|ps.getD (nl.idxOf (i:Int)) .fin
structure Pm(m:Int)(ps:List Pl)(dl nl:List Int):Prop where
 dn:yn m ps
 pd:dl.Perm (up m.toNat)
 pn:nl.Perm (up ps.length)
 n0:gi nl 0=0
section
variable {m:Int}{ps:List Pl}{dl nl:List Int}(H:Pm m ps dl nl)
include H
theorem Pm.bm(h:Bw m d):Bw m.toNat d:=⟨h.1,by have:=h.2;omega⟩
theorem zR5{k:Int}(hk:Bw ps.length k):nl.idxOf (gi nl k)=k.toNat:=by
 have e:=cS H.pn hk;have hm:gi nl k∈nl:=xA e;have hi:=WK hm;have:=nP hi;have j:nl[nl.idxOf<|gi nl k]?>gi nl k:=by rw[VA hi,this]
 show(tJ hi<|Tx H.pn).mp (j.trans e.symm)
theorem Ry{k:Int}(hk:Bw ps.length k):(PF dl nl ps)[(gi nl k).toNat]?=ps[k.toNat]?.map (uH (gi dl)<|gi nl):=by
 have hb:=dO H.pn hk;unfold PF;rw[CA,iC<|01,wA,show(((gi nl k).toNat:Nat):Int)=gi nl k by omega,zR5 H hk,WC];have:k.toNat<ps.length:=01
 rw[VA this];rfl
theorem zLc:(PF dl nl ps).Perm (ps.map<|uH (gi dl)<|gi nl):=by
 have j:PF dl nl ps=(up ps.length).map λi=>uH (gi dl) (gi nl)<|ps.getD (nl.idxOf i) .fin:=by unfold PF up;rw[JA];rfl
 have z:nl.map (λi=>uH (gi dl) (gi nl)<|ps.getD (nl.idxOf i) .fin)=ps.map (uH (gi dl)<|gi nl):=by
  refine xG λi=>?_
  rw[CA,CA];by_cases hi:i<ps.length
  .have hb:Bw ps.length (i:Int):=⟨01,01⟩
   have:=cS H.pn hb;rw[rB]at this;rw[this,wA,zR5 H hb,rB,WC,VA hi];rfl
  .rw[UB (by rw[SV H.pn];omega),UB<|01];rfl
 rw[j,<- z];show(H.pn.map _).symm
theorem IV:(PF dl nl ps).length=ps.length:=by simp[PF]
theorem zWx(hp:mJ m (λn=>0<=n/\n<(ps.length:Int)) p):mJ m (λn=>0<=n/\n<(ps.length:Int)) (uH (gi dl) (gi nl) p):=by
 cases p with
 |fin=>trivial
 |tell a b ch=>
  have ok:RM m _ a b ch:=hp;have ha:=dO H.pd<|H.bm ⟨ok.a0,ok.a1⟩;have hb:=dO H.pd<|H.bm ⟨ok.b0,ok.b1⟩;have m0:=H.dn.m0;refine(⟨ha.1,01,hb.1,01,λz=>ok.ne<|TQ H.pd (H.bm ⟨ok.a0,ok.a1⟩) (H.bm ⟨ok.b0,ok.b1⟩) z,by rw[iA];show ok.l0,by rw[iA];show ok.l1,by rw[JA];show ok.rs,λq hq=>?_,λq hq=>?_⟩:RM m _ _ _ (ch.map λq=>(q.1,gi nl q.2)))
  .obtain⟨r,hr,rfl⟩:=LA.mp hq;show ok.wd r hr
  .obtain⟨r,hr,rfl⟩:=LA.mp hq;show dO H.pn<|ok.nx r hr
theorem Pm.rn:Rn m ps (PF dl nl ps) (gi dl) (gi nl) where
 dn:=H.dn
 dn':=⟨H.dn.m0,H.dn.m1,by rw[IV H];show H.dn.n0,by rw[IV H];show H.dn.n1,λq hq=>by
  obtain⟨p,hp,rfl⟩:=LA.mp<|(zLc H).mem_iff.mp hq;rw[IV H];show zWx H<|H.dn.ok p hp⟩
 ln:=IV H
 pl:=λk hk=>Ry H hk
 nb:=λk hk=>dO H.pn hk
 ni:=λj k I hk e=>TQ H.pn I hk e
 n0:=H.n0
 pb:=λd hd=>by have x:=dO H.pd<|H.bm hd;have:=H.dn.m0;show⟨x.1,01⟩
 pi:=λd e hd he z=>TQ H.pd (H.bm hd) (H.bm he) z
end
theorem zQ2(e h:Int){l j:List Pl}(p:l.Perm j):VG e h (l.map KB)=VG e h (j.map KB):=by
 induction p with
 |nil=>rfl
 |cons x _ ih=>rw[eA,eA,VG,VG,ih]
 |swap x y l=>dsimp[eA,VG];omega
 |trans _ _ z i2=>show z.trans i2
section
variable {m:Int}{ps:List Pl}{dl nl:List Int}(H:Pm m ps dl nl)
include H
theorem zUX(hf:kJ ps):kJ (PF dl nl ps):=by
 intro e h;rw[zQ2 e h<|zLc H];have R:=H.rn;by_cases c:∃j h0,Bw m j/\Bw m h0/\gi dl j=e/\gi dl h0=h
 .obtain⟨j,h0,b1,b2,rfl,rfl⟩:=c;refine vA (WE ?_) (hf j h0)
  have I:∀l:List Pl,(∀p∈l,mJ m (λn=>0<=n/\n<(ps.length:Int)) p)->VG (gi dl j) (gi dl h0) ((l.map<|uH (gi dl)<|gi nl).map KB)=VG j h0 (l.map KB):=λl=>by
   induction l with
   |nil=>showλ_=>rfl
   |cons p l ih=>
    intro ok;rw[eA,eA,eA,VG,VG,ih λq hq=>ok q<|bA _ hq]
    congr 1
    have J:=ok p gA
    cases p with
    |fin=>rfl
    |tell a b ch=>
     have k:RM m _ a b ch:=J;refine(kT (l:=ch.map λq=>(q.1,gi nl q.2))).trans (Eq.trans ?_ kT.symm);rw[iA]
     congr 1
     unfold pr;have O:gi dl a=gi dl j↔a=j:=⟨R.pi _ _ ⟨k.a0,k.a1⟩ b1,congrArg _⟩
     have S:gi dl b=gi dl h0↔b=h0:=⟨R.pi _ _ ⟨k.b0,k.b1⟩ b2,congrArg _⟩
     dsimp[O,S]
  show I ps H.dn.ok
 .have I:∀l:List Pl,(∀p∈l,mJ m (λn=>0<=n/\n<(ps.length:Int)) p)->VG e h ((l.map<|uH (gi dl)<|gi nl).map KB)=0:=λl=>by
   induction l with
   |nil=>showλ_=>rfl
   |cons p l ih=>
    intro ok;rw[eA,eA,VG,ih λq hq=>ok q<|bA _ hq];have J:=ok p gA
    cases p with
    |fin=>rfl
    |tell a b ch=>
     have k:RM m _ a b ch:=J;refine(kT (l:=ch.map λq=>(q.1,gi nl q.2))).trans ?_
     have:pr e h (gi dl a) (gi dl b)=0:=by
      unfold pr;show if_neg λz=>c ⟨a,b,⟨k.a0,k.a1⟩,⟨k.b0,k.b1⟩,z.1,z.2⟩
     rw[this];rfl
  rw[I ps H.dn.ok];omega
end
end K11
namespace K11
open PySem L2 RD LG K06
noncomputable def tI(l:List Int):D:=.tup<|l.map D.int
section
variable {m:Int}{ps:List Pl}{dl nl:List Int}(H:Pm m ps dl nl)
include H
theorem zR6{ch:List (Str×Int)}(ok:∀q∈ch,Bw ps.length q.2){g:D->lB->Option lB}{E:dC}(I:∀(w:Str)(n:Int),Bw ps.length n->∃ρ1,g (uE (w,n)) ρ>ρ1/\E ρ1=((WA (tI nl)<|.int n).bind λx=>some<|.tup [.str w,x])):zR g (λ_=>some true) E (ch.map uE) ρ>(ch.map λq=>(q.1,gi nl q.2)).map uE:=by
 have:=qh (g:=g) (f:=E) (ρ:=ρ) uE (λq=>uE (q.1,gi nl q.2)) ch λq hq=>by
  obtain⟨ρ1,j,z⟩:=I q.1 q.2<|ok q hq;refine⟨ρ1,j,?_⟩;rw[z,show WA (tI nl) (.int q.2)=_ from OQ H.pn<|ok q hq];rfl
 rw[this,JA];rfl
theorem zQ3(hp:mJ m (λn=>0<=n/\n<(ps.length:Int)) p):yb [KB p,tI dl,tI nl]>(KB<|uH (gi dl) (gi nl) p):=by
 cases p with
 |fin=>
  have z:WA (KB .fin) (.int 0)>.str "end":=by dsimp[KB,WA,FI]
  have j:AE (.str "end") (.str "end")>.bl true:=by rw[RV,beq_self_eq_true]
  exists yb,ql,z,j,uH,CD,pF,zR,gN,gT,UD,vF,zw,zi,EG
 |tell a b ch=>
  have ok:RM m _ a b ch:=hp;have z:WA (KB<|.tell a b ch) (.int 0)>.str "tell":=by dsimp[KB,WA,FI]
  have S:WA (KB<|.tell a b ch) (.int 1)>.int a:=by dsimp[KB,WA,sN]
  have U:WA (KB<|.tell a b ch) (.int 2)>.int b:=by dsimp[KB,WA,at2]
  have Y:WA (KB<|.tell a b ch) (.int 3)>(.tup<|ch.map uE):=by dsimp[KB,WA,OY]
  have j:AE (.str "tell") (.str "end")>.bl false:=by rw[RV,V5]
  have J:WA (tI dl) (.int a)>(.int<|gi dl a):=OQ H.pd<|H.bm ⟨ok.a0,ok.a1⟩;have O:WA (tI dl) (.int b)>(.int<|gi dl b):=OQ H.pd<|H.bm ⟨ok.b0,ok.b1⟩
  have I:=zR6 H (ch:=ch) ok.nx (g:=gT 2<|UD (gN 4)<|UD (gN 5) vF) (E:=Kk) (ρ:=[!KB (.tell a b ch),!tI dl,!tI nl,.un,.un,.un]) λw n _=>⟨_,rfl,by
   exists 0,Kk
   cases WA (tI nl) (.int n)<;>rfl⟩
  have l1:ch.length<=1000000:=vA ok.l1 02
  exists yb,ql,z,S,U,Y,j,J,O,I,l1,uH,CD,pF,zw,zi,EG
  rfl
end
noncomputable def wR(dl nl:List Int):Nat->List Pl->List (kC×D)
 |_,[]=>[]
 |k,p::qs=>(.inl<|gi nl (k:Int),KB<|uH (gi dl) (gi nl) p)::wR dl nl (k+1) qs
theorem zUY(h:∀q∈kvs,q.1≠k):ZM kvs k v=kvs++[(k,v)]:=by
 unfold ZM;rw[if_neg];intro z;obtain⟨q,hq,e⟩:=eE.mp z;show h q hq<|of_decide_eq_true e
section
variable {m:Int}{ps:List Pl}{dl nl:List Int}(H:Pm m ps dl nl)
include H
theorem zLd:∀(qs:List Pl)(k:Nat)(kvs:List (kC×D))(s5 s6:Sl),(∀p∈qs,mJ m (λn=>0<=n/\n<(ps.length:Int)) p)->k+qs.length=ps.length->(∀q∈kvs,∃i:Nat,i<k/\q.1=DC (gi nl (i:Int)))->kvs.length<=k ->
  ∃S I,zi (gT 2<|UD (gN 5)<|UD (gN 6) vF) o9 (rL k<|qs.map KB) [!uB m ps,!tI dl,!tI nl,.v x,.m kvs,s5,s6]>.nx [!uB m ps,!tI dl,!tI nl,.v x,.m<|kvs++wR dl nl k qs,S,I]
 | [],k,kvs,s5,s6,_,_,_,_=>⟨s5,s6,by rw[wR,oB];rfl⟩
 |p::qs,k,kvs,s5,s6,ok,hk,hq,hl=>by
  have n1:=H.dn.n1;rw[kA]at hk;have hb:Bw ps.length (k:Int):=⟨01,01⟩
  obtain⟨U,Y,ih⟩:=zLd qs (k+1) (kvs++[(DC<|gi nl (k:Int),KB<|uH (gi dl) (gi nl) p)]) (!.int k) (!KB p) (λq hq=>ok q<|bA _ hq) 01 (λq j=>by
   rcases nA.mp j with z|z
   .obtain⟨i,hi,e⟩:=hq q z;show⟨i,01,e⟩
   .rw[jA.mp z];show⟨k,01,rfl⟩) (by rw[IA,eB];omega)
  refine⟨U,Y,?_⟩;have J:=zQ3 H<|ok p gA;have O:WA (tI nl) (.int (k:Int))>(.int<|gi nl (k:Int)):=OQ H.pn hb
  have e3:ZM kvs (.inl<|gi nl (k:Int)) (KB<|uH (gi dl) (gi nl) p)=_:=zUY λq j e=>by
   obtain⟨i,hi,e'⟩:=hq q j;rw[e]at e';have:=TQ H.pn hb (⟨01,01⟩:Bw ps.length (i:Int))<|NM e';omega
  have l:kvs.length<1000000:=01
  have st:o9 [!uB m ps,!tI dl,!tI nl,.v x,.m kvs,!.int k,!KB p]>.nx [!uB m ps,!tI dl,!tI nl,.v x,.m<|kvs++[(.inl<|gi nl (k:Int),KB<|uH (gi dl) (gi nl) p)],!.int k,!KB p]:=by
   exists 0,o9,J,O,e3,l,uK
  rw[eA,rL,UR rfl st,ih,wR,WB];rfl
theorem zO6:∀(qs:List Pl)(k j:Nat)(p:Pl),k+qs.length<=ps.length->qs[j]?>p->gi nl ((k+j:Nat):Int)=i->VM (wR dl nl k qs) (.inl i)>(KB<|uH (gi dl) (gi nl) p)
 | [],_,_,_,_,h,_=>by simp at h
 |q::qs,k,j,p,hk,h,e=>by
  rw[kA]at hk;have I:=(BA.mp h).1;rw[kA]at I;rw[wR];unfold VM;rw[iB]
  cases j with
  |zero=>
   cases h;rw[Nat.add_zero]at e
   dsimp[e,decide_true,wA]
  |succ j=>
   have ne:¬ ((DC (gi nl (k:Int)):kC)=.inl i):=λz=>by
    have z:=NM z;rw[<- e]at z;have:=TQ H.pn (⟨01,01⟩:Bw ps.length (k:Int)) (⟨01,01⟩:Bw ps.length ((k+(j+1):Nat):Int)) z;omega
   dsimp[ne,decide_false];show zO6 qs (k+1) j p 01 ‹h› (by rw[<- e];congr 2;omega)
theorem U0:d5 [uB m ps,tI dl,tI nl]>(uB m<|PF dl nl ps):=by
 have n1:=H.dn.n1;have O:WA (uB m ps) (.int 0)>.int m:=by dsimp[uB,WA,FI]
 have S:WA (uB m ps) (.int 1)>(.tup<|ps.map KB):=by dsimp[uB,WA,sN]
 obtain⟨s5,s6,I⟩:=zLd H (x:=.tup<|ps.map KB) ps 0 [] .un .un H.dn.ok 01 (λq hq=>nomatch hq)<|rA _;rw[lC]at I
 have j:=qh (g:=gN 7) (f:=E4) (ρ:=[!uB m ps,!tI dl,!tI nl,!.tup (ps.map KB),.m<|wR dl nl 0 ps,s5,s6,.un]) (λ(i:Nat)=>D.int<|0+(i:Int)) (λi=>KB<|(PF dl nl ps).getD i .fin) (uA ps.length) λi hi=>by
  have hi:=wB.mp hi;refine⟨_,rfl,?_⟩;obtain⟨k,hk,e⟩:=DU H.pn (⟨01,01⟩:Bw ps.length (i:Int));have z:k.toNat<ps.length:=01
  have g:=zO6 H (i:=(i:Int)) ps 0 k.toNat ps[k.toNat] 01 (VA z) (by rw[<- e];congr 1;omega);have r:=Ry H hk;rw[e,rB,VA z]at r
  exists 0,E4,uK,jE,g
  rw[WC,r];rfl
 have rl:(uA ps.length).map (λi=>KB<|(PF dl nl ps).getD i .fin)=(PF dl nl ps).map KB:=by
  refine xG λi=>?_
  rw[CA,CA];by_cases hi:i<ps.length
  .rw[iC hi,wA,WC,VA (by rw[IV H];show hi)];rfl
  .rw[UB ‹hi›,UB (by rw[IV H];omega)];rfl
 rw[rl]at j;refine QV<|(zl (ρ':=[!uB m ps,!tI dl,!tI nl,!.tup (ps.map KB),.un,.un,.un]) ?_).trans<|(zl (ρ':=[!uB m ps,!tI dl,!tI nl,!.tup (ps.map KB),.m [],.un,.un]) rfl).trans<|(zl<|(TR (ds:=rL 0<|ps.map KB) rfl).trans I).trans<|U5 ?_
 .show(ym<|qK (a:=uB m ps) (b:=.int 1) rfl rfl S).trans rfl
 .have J:zK 1 (UJ<|zC (b1 (gR 3) cH) zN) (gN 7) (λ_=>some true) E4 [!uB m ps,!tI dl,!tI nl,!.tup (ps.map KB),.m<|wR dl nl 0 ps,s5,s6]>(PF dl nl ps).map KB:=
   pX (FQ (n:=ps.length) (zY (a:=.int (ps.length:Int)) (by change cH (.tup<|ps.map KB)=_;dsimp[cH,iA]) rfl)<|01) (by rw[Qo];omega) j
  have Y:b1 (λρ=>((zK 1 (UJ<|zC (b1 (gR 3) cH) zN) (gN 7) (λ_=>some true) E4) ρ).map D.lst) tK [!uB m ps,!tI dl,!tI nl,!.tup (ps.map KB),.m<|wR dl nl 0 ps,s5,s6]>(.tup<|(PF dl nl ps).map KB):=by
   show(congrArg (λo=>RB (gC D.lst o) tK) J).trans rfl
  show congrArg (gC D.tup)<|zY (qK (a:=uB m ps) (b:=.int 0) rfl rfl O)<|zY Y rfl
end
end K11
namespace K11
open PySem L2 RD LG K06
theorem zWy(p:Pl):EG (KB p) (.tup [.str "end"])>.bl (match p with | .fin=>false|_=>true):=by
 unfold EG;rw[if_pos<|vA (rS _ _)<|by simp[mG,UH]]
 cases p with
 |fin=>dsimp[KB,CD,pF,beq_self_eq_true,mM,oM]
 |tell a b ch=>dsimp[KB,CD,pF,V5,dI,VT]
def h8(nl:List Int)(s:Sl):Pl->Sl
 |.fin=>s
 |.tell _ _ ch=>.v (.tup<|(ch.map λq=>(q.1,gi nl q.2)).map uE)
section
variable {m:Int}{ps:List Pl}{dl nl:List Int}(H:Pm m ps dl nl)
include H
theorem zJP:∀(qs:List Pl)(k:Nat)(X:List D)(s4 s5 s6:Sl),ps.drop k=qs->k<=ps.length->X.length=ps.length->(∀(j:Nat)(p:Pl),j<k->ps[j]?>p->X[(gi nl (j:Int)).toNat]?>(KB<|uH (gi dl) (gi nl) p)) ->
  ∃I nL iV SM,zi (gT 2<|UD (gN 4)<|UD (gN 5) vF) yz (rL k<|qs.map KB) [.v x,!tI dl,!tI nl,.l X,s4,s5,s6]>.nx [.v x,!tI dl,!tI nl,.l I,nL,iV,SM]/\I.length=ps.length/\∀(j:Nat)(p:Pl),ps[j]?>p->I[(gi nl (j:Int)).toNat]?>(KB<|uH (gi dl) (gi nl) p)
 |[],k,X,s4,s5,s6,hd,hk,O,al=>by
  have:ps.length<=k:=List.drop_eq_nil_iff.mp hd
  show⟨X,s4,s5,s6,rfl,O,λj p e=>al j p (DA (BA.mp e).1 this) e⟩
 |p::qs,k,X,s4,s5,s6,hd,hk,O,al=>by
  have n1:=H.dn.n1
  have hp:ps[k]?>p:=by
   have:=congrArg (λl=>l[0]?) hd;simpa using this
  have lI:=(BA.mp hp).1;have hb:Bw ps.length (k:Int):=⟨01,01⟩
  have gb:=dO H.pn hb;have Z:=H.dn.ok p<|xA hp;have U:WA (tI nl) (.int (k:Int))>(.int<|gi nl (k:Int)):=OQ H.pn hb
  have Y:VH X.length (gi nl (k:Int))>(gi nl (k:Int)).toNat:=by
   unfold VH;rw[if_pos gb.1,if_pos<|01]
  obtain⟨I,t4,t5,t6,ih,l',J⟩:=zJP (x:=x) qs (k+1) (X.set (gi nl (k:Int)).toNat<|KB<|uH (gi dl) (gi nl) p) (!.int k) (!KB (uH (gi dl) (gi nl) p)) (h8 nl s6 p) (by rw[<- ZT,hd];rfl) lI (by rw[CF];show O) (λj q hj e=>by
   by_cases c:j=k
   .subst c;rw[hp]at e;cases e;rw[ZA<|01]
   .have S:Bw ps.length (j:Int):=⟨01,01⟩
    have gj:=dO H.pn S;rw[RA λz=>c (by have:=TQ H.pn S hb 01;omega)];show al j q 01 e)
  refine⟨I,t4,t5,t6,?_,l',J⟩;have ne:=zWy p
  have st:yz [.v x,!tI dl,!tI nl,.l X,!.int k,!KB p,s6]>.nx [.v x,!tI dl,!tI nl,.l<|X.set (gi nl (k:Int)).toNat<|KB<|uH (gi dl) (gi nl) p,!.int k,!KB (uH (gi dl) (gi nl) p),h8 nl s6 p]:=by
   cases p with
   |fin=>exists yz,ne,U,Y,uH,h8,AE,CD,pF,zR,gN,gT,UD,vF,zw,zi
   |tell a b ch=>
    have ok:RM m _ a b ch:=Z;have x1:WA (KB<|.tell a b ch) (.int 1)>.int a:=by dsimp[KB,WA,sN]
    have x2:WA (KB<|.tell a b ch) (.int 2)>.int b:=by dsimp[KB,WA,at2]
    have x3:WA (KB<|.tell a b ch) (.int 3)>(.tup<|ch.map uE):=by dsimp[KB,WA,OY]
    have ga:WA (tI dl) (.int a)>(.int<|gi dl a):=OQ H.pd<|H.bm ⟨ok.a0,ok.a1⟩;have g2:WA (tI dl) (.int b)>(.int<|gi dl b):=OQ H.pd<|H.bm ⟨ok.b0,ok.b1⟩
    have cm:=zR6 H (ch:=ch) ok.nx (g:=gT 2<|UD (gN 7)<|UD (gN 8) vF) (E:=Kj) (ρ:=[.v x,!tI dl,!tI nl,.l X,!.int k,!KB (.tell a b ch),s6,.un,.un]) λw n _=>⟨_,rfl,by
     exists 0,Kj
     cases WA (tI nl) (.int n)<;>rfl⟩
    have l1:ch.length<=1000000:=vA ok.l1 02;have pe:KB (uH (gi dl) (gi nl)<|.tell a b ch)=.tup [.str "tell",.int<|gi dl a,.int<|gi dl b,.tup<|(ch.map λq=>(q.1,gi nl q.2)).map uE]:=rfl;rw[pe]
    exists yz,ne,U,Y,x1,x2,x3,ga,g2,cm,l1,h8,AE,CD,pF,zw,zi
  rw[eA,rL,UR rfl st,ih]
theorem zWz:qm [uB m ps,tI dl,tI nl]>(uB m<|PF dl nl ps):=by
 have n1:=H.dn.n1;have O:WA (uB m ps) (.int 0)>.int m:=by dsimp[uB,WA,FI]
 have z:WA (uB m ps) (.int 1)>(.tup<|ps.map KB):=by dsimp[uB,WA,sN]
 have J:=qh (g:=gN 7) (f:=Ki) (ρ:=[!uB m ps,!tI dl,!tI nl,.un,.un,.un,.un,.un]) KB (λ_=>D.non) ps λp _=>⟨_,rfl,rfl⟩
 obtain⟨X,s4,s5,s6,Z,lX,al⟩:=zJP H (x:=uB m ps) ps 0 (ps.map λ_=>D.non) .un .un .un rfl (EB _) (by rw[iA]) λj p Y=>absurd Y<|cU _
 have S:X=(PF dl nl ps).map KB:=by
  refine xG λi=>?_
  by_cases hi:i<ps.length
  .obtain⟨k,hk,e⟩:=DU H.pn (⟨01,01⟩:Bw ps.length (i:Int));have I:k.toNat<ps.length:=01
   have a1:=al k.toNat ps[k.toNat] (VA I);have r:=Ry H hk;rw[show((k.toNat:Nat):Int)=k by omega,e,rB]at a1;rw[e,rB,VA I]at r;rw[a1,CA,r];rfl
  .rw[UB<|01,UB (by rw[iA,IV H];omega)]
 subst S;refine QV ((zl (ρ':=[!uB m ps,!tI dl,!tI nl,.l<|ps.map λ_=>D.non,.un,.un,.un]) ?_).trans<|(zl<|(TR (ds:=rL 0<|ps.map KB) ?_).trans Z).trans<|U5 ?_)
 .have:zK 1 (iT<|b2 (gR 0) (zM 1) WA) (gN 7) (λ_=>some true) Ki [!uB m ps,!tI dl,!tI nl,.un,.un,.un,.un]>(ps.map λ_=>D.non):=
   pX ((by unfold iT;rw[qK (a:=uB m ps) (b:=.int 1) rfl rfl z];rfl)) (by rw[iA];omega) J
  show(congrArg (gC λd=>Out.nx<|aU _ 3<|.l d) this).trans rfl
 .change(b2 (gR 0) (zM 1) WA _).bind _=_;rw[qK (a:=uB m ps) (b:=.int 1) rfl rfl z];rfl
 .show congrArg (gC D.tup)<|zY (qK (a:=uB m ps) (b:=.int 0) rfl rfl O)<|zY (a:=.tup<|(PF dl nl ps).map KB) rfl rfl
end
end K11
namespace K11
open PySem L2 RD LG K06
noncomputable def IM(π:Int->Int)(v:Mv):Mv:=⟨v.t,π v.a,π v.b,v.w⟩
theorem kZ{α j:Type}{f g:α->List j}:∀{l:List α},(∀x∈l,f x=g x)->l.flatMap f=l.flatMap g
 | [],_=>rfl
 |x::l,h=>by rw[dB,dB,h x gA,kZ λy hy=>h y<|bA _ hy]
structure HR(M:Nat)(dl:List Int)(h h':Hl):Prop where
 pd:dl.Perm (up M)
 l1:h.P.length=M
 l2:h'.P.length=M
 pt:∀i:Int,Bw M i->h'.P[(gi dl i).toNat]?=(h.P[i.toNat]?).map (uJ<|vK<|gi dl)
 ac:∀i:Int,Bw M i->h'.at'[(gi dl i).toNat]?=h.at'[i.toNat]?
 rw:∀a b:Int,Bw M a->Bw M b->YJ h' (gi dl a) (gi dl b)=YJ h a b
 ob:∀p∈h.P,∀t o prs,LG.St.act t o prs∈p->Bw M o
 t3:∀p∈h.P,∀o prs,LG.St.act true o prs∈p->prs.length<=3
section
variable {M:Nat}{dl:List Int}{h h':Hl}(R:HR M dl h h')
include R
theorem HR.st{i:Int}(hi:Bw M i):HM h' (gi dl i).toNat=(HM h i.toNat).map (vK<|gi dl):=by
 unfold HM;rw[R.pt i hi,R.ac i hi]
 cases h.P[i.toNat]? with
 |none=>rfl
 |some p=>
  cases h.at'[i.toNat]? with
  |none=>rfl
  |some n=>dsimp[wA,dA,CA]
theorem HR.act(e:HM h i>.act t o prs):Bw M o:=by
 unfold HM at e;obtain⟨p,j,e⟩:=aA.mp e;obtain⟨n,z,e⟩:=aA.mp e;show R.ob p (xA j) t o prs<|xA e
theorem HR.mvsOf{i:Int}(hi:Bw M i):mvsOf h' (gi dl i).toNat=(mvsOf h i.toNat).map (IM<|gi dl):=by
 have z:=dO R.pd hi;have c1:(((gi dl i).toNat:Nat):Int)=gi dl i:=01
 have j:((i.toNat:Nat):Int)=i:=01
 unfold LG.mvsOf;rw[R.st hi]
 cases e:HM h i.toNat with
 |none=>rfl
 |some s=>
  cases s with
  |fin=>rfl
  |rests=>rfl
  |act t o prs=>
   have ob:=R.act e
   cases t with
   |true=>
    dsimp[wA,vK,JA];refine nB λq _=>?_
    change Mv.mk _ _ _ _=Mv.mk _ _ _ _
    rw[c1,j]
   |false=>
    dsimp[wA,vK,JA];rw[c1,j,R.rw o i ob hi];refine nB λq _=>?_
    rfl
theorem HR.rng:((uA M).map λ(i:Nat)=>(gi dl (i:Int)).toNat).Perm (uA M):=by
 have e:(uA M).map (λ(i:Nat)=>(gi dl (i:Int)).toNat)=dl.map Int.toNat:=by
  refine xG λi=>?_
  rw[CA,CA];by_cases hi:i<M
  .have:=cS R.pd (⟨01,01⟩:Bw M (i:Int));rw[rB]at this;rw[iC hi,this];rfl
  .rw[UB ‹hi›,UB (by rw[SV R.pd];omega)];rfl
 rw[e];refine(R.pd.map Int.toNat).trans (.of_eq ?_);unfold up;rw[JA];show List.map_id'' (λi=>rfl) _
theorem HR.mvs:(mvs h').Perm ((mvs h).map<|IM<|gi dl):=by
 unfold LG.mvs;rw[R.l1,R.l2];refine((R.rng.symm).flatMap_right _).trans (.of_eq ?_);rw[List.flatMap_map,WQ];refine kZ λi hi=>?_
 have hi:=wB.mp hi;have:=R.mvsOf (⟨01,01⟩:Bw M (i:Int))
 rwa [rB]at this
theorem HR.next{i:Int}(hi:Bw M i)(w:Str):nextOf h' (gi dl i).toNat w=nextOf h i.toNat w:=by
 unfold nextOf;rw[R.st hi]
 cases HM h i.toNat with
 |none=>rfl
 |some s=>cases s<;>rfl
theorem HR.doM(H:HOk k h)(H':HOk k' h'){v:Mv}(hv:v∈LG.mvs h)(n:Int):HR M dl (LG.doM h v n) (LG.doM h' (IM (gi dl) v) n)/\(IM (gi dl) v).who=(gi dl (v.who:Int)).toNat/\Bw M (v.who:Int):=by
 obtain⟨o,prs,Z,Y,es,_,_,ab⟩:=Qt H hv;rw[R.l1]at Y;have I:Bw M (v.who:Int):=⟨01,01⟩
 have ob:=R.act es
 have J:Bw M v.a/\Bw M v.b/\(if v.t then v.a else v.b)=(v.who:Int):=by
  cases j:v.t with
  |true=>rw[j,if_pos rfl]at ab;rw[if_pos rfl,ab.1,ab.2];show⟨I,ob,rfl⟩
  |false=>rw[j,if_neg<|by simp]at ab;rw[if_neg (by simp),ab.1,ab.2.1];show⟨ob,I,rfl⟩
 have U:(IM (gi dl) v).who=(gi dl (v.who:Int)).toNat:=by
  rw[<- J.2.2];unfold Mv.who IM;cases v.t<;>rfl
 have O:∀a b:Int,Bw M a->Bw M b->((gi dl a,gi dl b)=(gi dl v.a,gi dl v.b)↔(a,b)=(v.a,v.b)):=λa b ha hb=>by
  dsimp[Prod.mk.injEq];show⟨λz=>⟨TQ R.pd ha J.1 z.1,TQ R.pd hb J.2.1 z.2⟩,λz=>by rw[z.1,z.2];show⟨rfl,rfl⟩⟩
 refine⟨⟨R.pd,R.l1,R.l2,R.pt,λi hi=>?_,λa b ha hb=>?_,R.ob,R.t3⟩,U,I⟩
 .change(h'.at'.set (IM (gi dl) v).who n)[(gi dl i).toNat]?=(h.at'.set v.who n)[i.toNat]?;rw[U];have g1:=dO R.pd hi;have g2:=dO R.pd I;have l1:=H.len;have l2:=H'.len;rw[R.l1]at l1;rw[R.l2]at l2;by_cases c:i=(v.who:Int)
  .subst c;rw[ZA<|01,rB,ZA<|01]
  .rw[RA λz=>c<|TQ R.pd hi I<|01,RA<|01];show R.ac i hi
 .have S:=R.rw a b ha hb;have kk:=O a b ha hb;change YJ { h' with R:=qt (IM (gi dl) v) h'.R } (gi dl a) (gi dl b)=YJ { h with R:=qt v h.R } a b;unfold qt
  cases j:v.t with
  |true=>
   rw[show(IM (gi dl) v).t=true from j];dsimp[if_true];change YJ { h' with R:=kQ (gi dl v.a,gi dl v.b) v.w h'.R } (gi dl a) (gi dl b)=_;rw[zJG,zJG,S];by_cases c:(a,b)=(v.a,v.b)
   .rw[if_pos c,if_pos<|kk.mpr c]
   .rw[if_neg c,if_neg λz=>c<|kk.mp z]
  |false=>
   rw[show(IM (gi dl) v).t=false from j];dsimp[xB,if_false];change YJ { h' with R:=cN (gi dl v.a,gi dl v.b) fK h'.R } (gi dl a) (gi dl b)=_;rw[zJH,zJH,S];by_cases c:(a,b)=(v.a,v.b)
   .rw[if_pos c,if_pos<|kk.mpr c]
   .rw[if_neg c,if_neg λz=>c<|kk.mp z]
theorem HR.does(H:HOk k h)(H':HOk k' h')(hk:k<=1000)(U:k'<=1000)(C:Addr)(hv:v∈LG.mvs h):∃h1 z,HR M dl h1 z/\HOk (k+1) h1/\HOk (k'+1) z/\pW C (vC C h) [EC v]>vC C h1/\pW C (vC C h') [EC<|IM (gi dl) v]>vC C z:=by
 have J:IM (gi dl) v∈LG.mvs h':=R.mvs.mem_iff.mpr<|IB hv;obtain⟨n,o,prs,w1,Z,w3,w4,w5⟩:=zRy H hk C hv;obtain⟨I,o',S,x1,x2,x3,j,x5⟩:=zRy H' U C J;obtain⟨D,O,wb⟩:=R.doM H H' hv n
 have Y:I=n:=by
  have:=R.next wb v.w;rw[rB,<- O,w4]at this;have j:nextOf h' (IM (gi dl) v).who v.w>I:=j;rw[this]at j;show(DB j).symm
 subst Y;show⟨_,_,D,Si H Z w3,Si H' x2 x3,w5,x5⟩
theorem HR.len1(H:HOk k h)(hi:i<M):(LG.mvsOf h i).length<=3:=by
 obtain⟨p,n,s,j,I,e3,es,b,ok⟩:=wX H (by rw[R.l1];show hi);unfold LG.mvsOf;rw[es]
 cases s with
 |fin=>show EB _
 |rests=>show EB _
 |act t o prs=>
  cases t with
  |true=>
   change(prs.map _).length<=3;rw[iA]
   show R.t3 p (xA j) o prs<|xA e3
  |false=>
   have ok:xS _ _ _:=ok;change((prs.filter _).map _).length<=3;rw[iA];refine vA (WE (iA (f:=λq:Str×Int=>q.1)).symm) ?_;have nd:((prs.filter λq=>decide<|[q.1]=(YJ h o i).take 1).map (·.1)).Nodup:=(ok.rs.imp λh=>h.ne:(prs.map (·.1)).Nodup).sublist<|List.filter_sublist.map _;refine vA (E5 nd (L:=(YJ h o i).take 1) λw z=>?_) (vA (JO ..)<|02);obtain⟨q,hq,rfl⟩:=LA.mp z;rw[<- of_decide_eq_true (LC.mp hq).2];show jA.mpr rfl
theorem HR.len(H:HOk k h):(LG.mvs h).length<=12:=by
 have m4:=H.m4;rw[R.l1]at m4
 have z:∀is:List Nat,(∀i∈is,i<M)->(is.flatMap<|LG.mvsOf h).length<=3*is.length:=λis=>by
  induction is with
  |nil=>showλ_=>rA _
  |cons i is ih=>
   intro a;have:=R.len1 H<|a i gA;have:=ih λj I=>a j<|bA _ I
   rw[dB,IA,kA];omega
 have:=z (uA M) λi hi=>wB.mp hi
 unfold LG.mvs;rw[R.l1];rw[AG]at this;omega
end
end K11
namespace K11
open PySem L2 RD LG K06
theorem zJR{f:Nat->List LG.St}:∀{is:List Nat},(∀i∈is,fU ps i<|f i)->OR ps is (is.map f)
 | [],_=>rfl
 |i::is,h=>⟨_,_,rfl,h i gA,zJR λj z=>h j<|bA _ z⟩
theorem zR7{r:Nat->Except Nat D}:∀{is:List Nat},(∀i∈is,∃y,r i=.ok y)->cO (is.map r)≠.error c
 | [],_=>λz=>by cases z
 |i::is,h=>by
  obtain⟨y,e⟩:=h i gA;have ih:=zR7 (c:=c) λj I=>h j<|bA _ I
  rw[eA,e];unfold cO
  cases q:cO (is.map r) with
  |ok ys=>showλz=>by cases z
  |error J=>
   intro z;dsimp[Except.error.injEq]at z;subst z;show ih q
theorem zO7{m:Int}(hd:yn m ps)(hf:kJ ps)(C:Addr){f:Nat->List LG.St}(h:∀i:Nat,i<m.toNat->fU ps i (f i)/\za [uB m ps,.int (i:Int)]>(.ok<|nE<|f i)):
  HOk 0 (iM<|(uA m.toNat).map f)/\yJ C [uB m ps]>(.o none<|vC C<|iM<|(uA m.toNat).map f):=by
 refine⟨(zQw hd hf<|zJR λi hi=>(h i<|wB.mp hi).1).1,?_⟩;have pr:∀i:Nat,i<m.toNat->XM m ps i=.ok (nE<|f i):=λi hi=>by unfold XM;rw[(h i hi).2];rfl
 rcases zJK hd hf C with⟨e,_⟩|⟨P,J,hq,e⟩
 .show absurd e (zR7 λi hi=>⟨_,pr i<|wB.mp hi⟩)
 .rw[e]
  have q:P.map nE=((uA m.toNat).map f).map nE:=by
   have j:(uA m.toNat).map (XM m ps)=(((uA m.toNat).map f).map nE).map Except.ok:=by
    rw[JA,JA];show nB λi hi=>pr i<|wB.mp hi
   have I:P.map (λp=>(Except.ok (nE p):Except Nat D))=(P.map nE).map Except.ok:=by rw[JA];rfl
   rw[j,I]at hq;show((oP λa b z=>Except.ok.inj z).mp hq).symm
  have l:=congrArg HE q;rw[iA,iA]at l;have z:P.map (λ_=>(0:Int))=((uA m.toNat).map f).map λ_=>0:=by rw[nS,nS,l]
  unfold vC iM;dsimp[q,z]
theorem zO8{m:Int}(hd:yn m ps)(hf:kJ ps)(C:Addr)(hi:i<m.toNat)(e:za [uB m ps,.int (i:Int)]>.error 0):yJ C [uB m ps]>.v .non:=by
 rcases zJK hd hf C with⟨_,e'⟩|⟨P,j,hq,_⟩
 .show e'
 .have:=congrArg (λl=>l[i]?) hq;dsimp[CA,iC hi,wA]at this;unfold XM at this;rw[e]at this
  cases q:P[i]? with
  |none=>rw[q]at this;cases this
  |some p=>rw[q]at this;cases this
theorem Z2(hd:yn m ps)(e:EJ ps d Ks K=.act t o prs):Bw m o:=by
 unfold EJ at e
 cases q:turns ps d K with
 |nil=>rw[q]at e;cases e
 |cons u us=>
  rw[q]at e;have j:u∈turns ps d K:=by rw[q];show gA
  have ok:=qM hd j
  cases u with
  |fin=>cases e
  |tell a b ch=>
   have k:RM m _ a b ch:=ok;by_cases c:a=d
   .dsimp[show LG.ask (.tell a b ch) d=.tells b (ch.map (·.1)) from if_pos c]at e;cases e;show⟨k.b0,k.b1⟩
   .dsimp[show LG.ask (.tell a b ch) d=.hears a from if_neg c]at e;cases e;show⟨k.a0,k.a1⟩
theorem A3(hd:yn m ps)(I:IsPart ps d Ks)(hK:K∈Ks){prs:List (Str×Int)}(e:EJ ps d Ks K=.act true o prs):prs.length<=3:=by
 have al:=V9.mp<|I.al K hK;unfold EJ at e
 cases q:turns ps d K with
 |nil=>rw[q]at e;cases e
 |cons u us=>
  rw[q]at e;have S:u∈turns ps d K:=by rw[q];show gA
  have ok:=qM hd S
  cases u with
  |fin=>cases e
  |tell a b ch=>
   have k:RM m _ a b ch:=ok;by_cases c:a=d
   .have J:LG.ask (.tell a b ch) d=.tells b (ch.map (·.1)):=if_pos c;dsimp[J]at e;cases e;unfold WM;rw[iA];unfold LG.yi;rw[W4];refine vA (E5 (Z4 _) (L:=ch.map (·.1)) λw Y=>?_) (by rw[iA];show k.l1);obtain⟨r,hr,rfl⟩:=vX.mp Y;obtain⟨t,U,hr⟩:=VC.mp hr;have at':=(al t U _ S).trans J
    cases t with
    |fin=>cases hr
    |tell j b' z=>
     by_cases O:j=d
     .rw[show LG.ask (.tell j b' z) d=.tells b' (z.map (·.1)) from if_pos O]at at';rw[<- (Ask.tells.inj at').2];show IB hr
     .rw[show LG.ask (.tell j b' z) d=.hears j from if_neg O]at at';cases at'
   .dsimp[show LG.ask (.tell a b ch) d=.hears a from if_neg c]at e;cases e
def PR(m:Int)(ps:List Pl)(dl nl:List Int)(i:Nat)(p:List LG.St):Prop:=fU ps i p/\fU (PF dl nl ps) (gi dl (i:Int)).toNat (p.map<|vK<|gi dl)/\za [uB m ps,.int (i:Int)]>(.ok<|nE p)/\za [uB m<|PF dl nl ps,.int<|gi dl (i:Int)]>(.ok<|nE<|p.map<|vK<|gi dl)
theorem vZ{m:Int}(H:Pm m ps dl nl)(hf:kJ ps)(C:Addr):(yJ C [uB m ps]>.v .non/\yJ C [uB m<|PF dl nl ps]>.v .non) \/
  ∃h h',HR m.toNat dl h h'/\HOk 0 h/\HOk 0 h'/\yJ C [uB m ps]>(.o none<|vC C h)/\yJ C [uB m<|PF dl nl ps]>(.o none<|vC C h')/\∀i:Nat,i<m.toNat->∃p,PR m ps dl nl i p:=by
 have R:=H.rn;have IZ:=zUX H hf;have m0:=H.dn.m0
 have gB:∀i:Nat,i<m.toNat->Bw m (gi dl (i:Int))/\(((gi dl (i:Int)).toNat:Nat):Int)=gi dl (i:Int)/\(gi dl (i:Int)).toNat<m.toNat:=λi hi=>by
  have:=dO H.pd (⟨01,01⟩:Bw m.toNat (i:Int));show⟨⟨this.1,01⟩,01,01⟩
 have S:∀i:Nat,i<m.toNat->(za [uB m ps,.int (i:Int)]>.error 0/\za [uB m<|PF dl nl ps,.int<|gi dl (i:Int)]>.error 0)\/∃p,PR m ps dl nl i p:=λi hi=>by
  obtain⟨g1,g2,g3⟩:=gB i hi;refine(zQ1 R hf IZ (⟨01,01⟩:Bw m (i:Int))).imp id λ⟨Ks,I,I',e1,Y,e3⟩=>⟨Ks.map<|EJ ps i Ks,⟨Ks,I,rfl⟩,⟨Ks.map<|im<|gi nl,by rw[g2];show I',by rw[g2];show e3.symm⟩,e1,?_⟩
  rw[Y,<- e3];rfl
 by_cases O:∃i:Nat,i<m.toNat/\za [uB m ps,.int (i:Int)]>.error 0/\za [uB m<|PF dl nl ps,.int<|gi dl (i:Int)]>.error 0
 .obtain⟨i,hi,e1,Y⟩:=O;obtain⟨g1,g2,g3⟩:=gB i hi;rw[<- g2]at Y;show .inl ⟨zO8 H.dn hf C hi e1,zO8 R.dn' IZ C g3 Y⟩
 .right
  have all:∀i:Nat,∃p,i<m.toNat->PR m ps dl nl i p:=λi=>by
   by_cases hi:i<m.toNat
   .rcases S i hi with z|⟨p,hp⟩
    .show absurd ⟨i,hi,z⟩ O
    .show⟨p,λ_=>hp⟩
   .show⟨[],λz=>absurd z hi⟩
  have ⟨f,hF⟩:=Classical.axiomOfChoice all
  have inv:∀j:Nat,j<m.toNat->∃i:Nat,i<m.toNat/\gi dl (i:Int)=(j:Int)/\dl.idxOf (j:Int)=i:=λj J=>by
   obtain⟨k,hk,e⟩:=DU H.pd (⟨01,01⟩:Bw m.toNat (j:Int));refine⟨k.toNat,01,by rw[show((k.toNat:Nat):Int)=k by omega];show e,?_⟩;rw[<- e];have e:=cS H.pd hk;have hi:=WK<|xA e;show(tJ hi<|Tx H.pd).mp ((by rw[VA hi,nP hi]:dl[dl.idxOf<|gi dl k]?>gi dl k).trans e.symm)
  have h1:=zO7 H.dn hf C (f:=f) λi hi=>⟨(hF i hi).1,(hF i hi).2.2.1⟩
  have h2:=zO7 R.dn' IZ C (f:=λj=>(f<|dl.idxOf (j:Int)).map<|vK<|gi dl) λj J=>by
   obtain⟨i,hi,e,ei⟩:=inv j J;have:=hF i hi;rw[ei];refine⟨?_,?_⟩
   .have q:=this.2.1;rw[e,rB]at q;show q
   .have q:=this.2.2.2;rw[e]at q;show q
  refine⟨_,_,⟨H.pd,by simp[iM],by simp[iM],λi hi=>?_,λi hi=>?_,λa b _ _=>rfl,λp hp t o prs U=>?_,λp hp o prs U=>?_⟩,h1.1,h2.1,h1.2,h2.2,λi hi=>⟨f i,hF i hi⟩⟩
  .have gb:=dO H.pd hi;have J:(gi dl i).toNat<m.toNat:=01
   have oR:i.toNat<m.toNat:=01
   dsimp[iM,CA,iC J,iC oR,wA];obtain⟨k,hk,e,ek⟩:=inv _ J;rw[ek];have:(k:Int)=i:=TQ H.pd ⟨01,01⟩ hi (by rw[e];omega);rw[show k=i.toNat by omega]
  .have gb:=dO H.pd hi;have J:(gi dl i).toNat<m.toNat:=01
   have oR:i.toNat<m.toNat:=01
   dsimp[iM,CA,iC J,iC oR,wA]
  .obtain⟨i,hi,rfl⟩:=LA.mp hp;obtain⟨⟨Ks,I,e⟩,_⟩:=hF i<|wB.mp hi;rw[e]at U;obtain⟨K,hK,es⟩:=LA.mp U;have:=Z2 H.dn es;show⟨this.1,01⟩
  .obtain⟨i,hi,rfl⟩:=LA.mp hp;obtain⟨⟨Ks,I,e⟩,_⟩:=hF i<|wB.mp hi;rw[e]at U;obtain⟨K,hK,es⟩:=LA.mp U;show A3 H.dn I hK es
end K11
namespace K11
open PySem L2 RD LG K06
theorem M6{c:iF}{F F':aC}(h:c ρ>false)(k:F' ρ=r):nG c F F' ρ=r:=by
 unfold nG;rw[h,dA,if_neg cB];show k
theorem Av(h:mG d<=20):EG d d>.bl false:=by
 unfold EG;rw[if_pos<|vA (Nat.min_le_left _ _) h,RD.Af];rfl
theorem sX{α:Type}{f:α->D}(h:∀x,mG (f x)<=n):∀l:List α,UH (l.map f)<=n
 | []=>EB _
 |x::l=>Ub.mpr ⟨h x,sX h l⟩
noncomputable def nR:LG.St->D
 |.fin=>.str "end"
 |.rests=>.str "rests"
 |.act t _ _=>.str<|if t then "tells" else "hears"
def JR:LG.St->D
 |.act _ _ prs=>.tup [.tup<|prs.map uE]
 |_=>.tup []
theorem zUZ(π:Int->Int)(s:LG.St):nR (vK π s)=nR s:=by cases s<;>rfl
theorem zUa(π:Int->Int)(s:LG.St):JR (vK π s)=JR s:=by cases s<;>rfl
theorem zUb(s:LG.St):mG (nR s)<=3:=by cases s<;>show EB _
theorem zUc(s:LG.St):mG (JR s)<=3:=by
 cases s with
 |fin=>decide
 |rests=>decide
 |act t o prs=>
  have:=sX (f:=uE) (n:=1) (λq=>VB rfl) prs;dsimp[JR,mG,UH];omega
theorem zW0(s:LG.St):WA (oE s) (.int 0)>nR s:=by cases s<;>dsimp[oE,WA,FI,nR]
theorem zW1(s:LG.St):VJ (oE s) (some 2) none>JR s:=by cases s<;>rfl
theorem Aw{E:dC}{out:LG.St->D}(j:∀s,E [a,b,c,d,e,f,!oE s]>out s)(g:dC){p:List LG.St}(z:g [a,b,c,d,e,f]>nE p)(hp:p.length<=10000000):(λρ=>((cP 1 (iT g) (gN 6) (λ_=>some true) E) ρ).map D.lst) [a,b,c,d,e,f]>(.lst<|p.map out):=by
 have:=qh (g:=gN 6) (f:=E) (ρ:=[a,b,c,d,e,f,.un]) oE out p λs _=>⟨_,rfl,j s⟩
 have q:cP 1 (iT g) (gN 6) (λ_=>some true) E [a,b,c,d,e,f]>p.map out:=by
  unfold cP iT;rw[z,dA,show Ea (nE p)>p.map oE from rfl,dA,if_pos (by rw[iA];show hp)];show this
 show(congrArg (gC D.lst) q).trans rfl
theorem zPA{f:LG.St->D}(h:∀s,mG (f s)<=3)(p:List LG.St):mG (.lst<|p.map f)<=20:=by
 have:=sX h p;change UH (p.map f)+1<=20;omega
section
variable {m:Int}{ps:List Pl}{dl nl:List Int}(H:Pm m ps dl nl)
include H
theorem zPB(hi:i<m.toNat)(P:PR m ps dl nl i p)(s4 s5:Sl):∃nL iV,qr [!uB m ps,!uB m (PF dl nl ps),!tI dl,!.int (i:Int),s4,s5]>.nx [!uB m ps,!uB m (PF dl nl ps),!tI dl,!.int (i:Int),nL,iV]:=by
 obtain⟨⟨Ks,I,Z⟩,_,U,Y⟩:=P;have j:p.length<=10000000:=by rw[Z,iA];show vA I.le 02
 have z:(p.map<|vK<|gi dl).length<=10000000:=by rw[iA];show j
 have gx:WA (tI dl) (.int (i:Int))>(.int<|gi dl (i:Int)):=OQ H.pd ⟨01,01⟩;refine⟨!nE p,.v<|nE<|p.map<|vK<|gi dl,?_⟩;have c1:=Aw (E:=qo) (out:=nR) (a:=!uB m ps) (b:=!uB m (PF dl nl ps)) (c:=!tI dl) (d:=!.int (i:Int)) (e:=!nE p) (f:=.v<|nE<|p.map<|vK<|gi dl) (λs=>qK (a:=oE s) (b:=.int 0) rfl rfl<|zW0 s) (gV 4) rfl j;have J:=Aw (E:=qp) (out:=nR) (a:=!uB m ps) (b:=!uB m (PF dl nl ps)) (c:=!tI dl) (d:=!.int (i:Int)) (e:=!nE p) (f:=.v<|nE<|p.map<|vK<|gi dl) (λs=>qK (a:=oE s) (b:=.int 0) rfl rfl<|zW0 s) (gV 5) rfl z;have S:=Aw (E:=yr) (out:=JR) (a:=!uB m ps) (b:=!uB m (PF dl nl ps)) (c:=!tI dl) (d:=!.int (i:Int)) (e:=!nE p) (f:=.v<|nE<|p.map<|vK<|gi dl) (λs=>(show yr _=VJ (oE s) (some 2) none from rfl).trans<|zW1 s) (gV 4) rfl j;have O:=Aw (E:=yt) (out:=JR) (a:=!uB m ps) (b:=!uB m (PF dl nl ps)) (c:=!tI dl) (d:=!.int (i:Int)) (e:=!nE p) (f:=.v<|nE<|p.map<|vK<|gi dl) (λs=>(show yt _=VJ (oE s) (some 2) none from rfl).trans<|zW1 s) (gV 5) rfl z;rw[JA,show nR∘vK (gi dl)=nR from funext<|zUZ _]at J;rw[JA,show JR∘vK (gi dl)=JR from funext<|zUa _]at O;have n1:=Av<|zPA zUb p;have n2:=Av<|zPA zUc p;refine(zl<|ym (d:=nE p) ?_).trans ((zl<|ym (d:=nE<|p.map<|vK<|gi dl) ?_).trans ?_)
 .have:zC (gV 0) (zC (gV 3) zN) [!uB m ps,!uB m (PF dl nl ps),!tI dl,!.int (i:Int),s4,s5]>[uB m ps,.int (i:Int)]:=zY rfl<|zY rfl rfl;show(congrArg (λo=>RB (RB o za) A1) this).trans (by rw[dA,U];rfl)
 .have:zC (gV 1) (zC (b2 (gR 2) (gR 3) WA) zN) [!uB m ps,!uB m (PF dl nl ps),!tI dl,!.int (i:Int),!nE p,s5]>[uB m<|PF dl nl ps,.int<|gi dl (i:Int)]:=
   zY rfl (zY (qK (a:=tI dl) (b:=.int (i:Int)) rfl rfl gx) rfl)
  show(congrArg (λo=>RB (RB o za) A1) this).trans (by rw[dA,Y];rfl)
 .refine M6 ?_ rfl
  have b1:bB (b2 (λρ=>((cP 1 (iT<|gV 4) (gN 6) (λ_=>some true) qo) ρ).map D.lst) (λρ=>((cP 1 (iT<|gV 5) (gN 6) (λ_=>some true) qp) ρ).map D.lst) EG) [!uB m ps,!uB m (PF dl nl ps),!tI dl,!.int (i:Int),!nE p,.v<|nE<|p.map<|vK<|gi dl]>false:=by
   unfold bB;rw[qK c1 J n1];rfl
  have b2:bB (b2 (λρ=>((cP 1 (iT<|gV 4) (gN 6) (λ_=>some true) yr) ρ).map D.lst) (λρ=>((cP 1 (iT<|gV 5) (gN 6) (λ_=>some true) yt) ρ).map D.lst) EG) [!uB m ps,!uB m (PF dl nl ps),!tI dl,!.int (i:Int),!nE p,.v<|nE<|p.map<|vK<|gi dl]>false:=by
   unfold bB;rw[qK S O n2];rfl
  change QY _ _ [!uB m ps,!uB m (PF dl nl ps),!tI dl,!.int (i:Int),!nE p,.v<|nE<|p.map<|vK<|gi dl]=_;unfold QY;rw[b1,dA];dsimp[xB,if_false];show b2
theorem zW2(al:∀i:Nat,i<m.toNat->∃p,PR m ps dl nl i p):yl [uB m ps,uB m<|PF dl nl ps,tI dl]>.bl true:=by
 have m1:=H.dn.m1;have m0:=H.dn.m0;have I:WA (uB m ps) (.int 0)>.int m:=by dsimp[uB,WA,FI]
 have loop:∀(is:List Nat)(s3 s4 s5:Sl),(∀i∈is,i<m.toNat)->∃z S O,zi (gN 3) qr (is.map λ(i:Nat)=>D.int<|0+(i:Int)) [!uB m ps,!uB m (PF dl nl ps),!tI dl,s3,s4,s5]>.nx [!uB m ps,!uB m (PF dl nl ps),!tI dl,z,S,O]:=λis=>by
  induction is with
  |nil=>showλs3 s4 s5 _=>⟨s3,s4,s5,rfl⟩
  |cons i is ih=>
   intro s3 s4 s5 h;obtain⟨p,P⟩:=al i<|h i gA;obtain⟨U,Y,e⟩:=zPB H (h i gA) P s4 s5;obtain⟨Z,u4,u5,e'⟩:=ih (!.int (i:Int)) U Y λj J=>h j<|bA _ J
   refine⟨Z,u4,u5,?_⟩;rw[eA,jE,UR rfl e,e']
 obtain⟨s3,s4,s5,e⟩:=loop (uA m.toNat) .un .un .un λi hi=>wB.mp hi
 refine QV<|(zl<|(TR (ds:=rng 0 m.toNat) ?_).trans e).trans rfl;show FQ (n:=m.toNat) (zY ((qK (a:=uB m ps) (b:=.int 0) rfl rfl I).trans<|by rw[show((m.toNat:Nat):Int)=m by omega]) rfl) 01
end
end K11
namespace K11
open PySem L2 RD LG K06
def c7(v:Mv):Tk:=(NQ v.t,v.a,v.b,v.w)
theorem zPC{l j:List Tk}(p:l.Perm j):aO l=aO j:=
 ((M9 l).trans<|p.trans (M9 j).symm).eq_of_pairwise (λa b _ _ h1 h2=>xT.tt _ _ h2 h1) (Am l) (Am j)
theorem zW4{l:List Mv}(h:l.length<64):EN (.lst<|l.map EC)>(aO<|l.map c7).map xK:=zIv (by rw[JA];rfl) (by rw[iA];show h)
theorem zW5{l:List Mv}(h:l.length<64):EN (.tup<|l.map EC)>(aO<|l.map c7).map xK:=zIv (by rw[JA];rfl) (by rw[iA];show h)
theorem zW6(l:List Tk):mG (.lst<|l.map xK)<=20:=by
 have:=sX (f:=xK) (n:=1) (λk=>VB rfl) l;change UH (l.map xK)+1<=20;omega
theorem zPD{dl:List Int}(pd:dl.Perm (up M)){v:Mv}(ha:Bw M v.a)(hb:Bw M v.b):qQ [EC v,tI dl]>(EC<|IM (gi dl) v):=by
 have j:WA (tI dl) (.int v.a)>(.int<|gi dl v.a):=OQ pd ha;have z:WA (tI dl) (.int v.b)>(.int<|gi dl v.b):=OQ pd hb;show QV<|U5<|congrArg (gC D.tup)<|zY (qK (a:=EC v) (b:=.int 0) rfl rfl<|zWn v)<|zY (qK (a:=tI dl) rfl (qK (a:=EC v) (b:=.int 1) rfl rfl<|Tt v) j)<|zY (qK (a:=tI dl) rfl (qK (a:=EC v) (b:=.int 2) rfl rfl<|Tu v) z)<|zY (qK (a:=EC v) (b:=.int 3) rfl rfl<|zWo v) rfl
theorem HR.ab(R:HR M dl h h')(H:HOk k h){v:Mv}(hv:v∈LG.mvs h):Bw M v.a/\Bw M v.b:=by
 obtain⟨o,prs,J,I,es,_,_,ab⟩:=Qt H hv;rw[R.l1]at I;have z:Bw M (v.who:Int):=⟨01,01⟩
 have ob:=R.act es
 cases j:v.t with
 |true=>rw[j,if_pos rfl]at ab;rw[ab.1,ab.2];show⟨z,ob⟩
 |false=>rw[j,if_neg<|by simp]at ab;rw[ab.1,ab.2.1];show⟨ob,z⟩
theorem turn(R:HR M dl h h')(H:HOk k h)(H':HOk k h')(hk:k<=100)(C:Addr)(c:Int)(s0 s1 s3 s4 s8 s9:Sl):
  ∃h1 z pO jV,HR M dl h1 z/\HOk (k+1) h1/\HOk (k+1) z/\Qu C [s0,s1,!tI dl,s3,s4,.o none<|vC C h,.o none<|vC C h',!.int c,s8,s9]>.nx [s0,s1,!tI dl,s3,s4,.o none<|vC C h1,.o none<|vC C z,!.int c,pO,jV]:=by
 have l1:=R.len H;have pm:=R.mvs;have l2:=pm.length_eq;rw[iA]at l2;have len:cH (.tup<|(mvs h).map EC)>.int ((mvs h).length:Int):=by dsimp[cH,iA]
 have I:qF 8 (WJ C "moves" 5 zN<|tO C) [s0,s1,!tI dl,s3,s4,.o none<|vC C h,.o none<|vC C h',!.int c,s8,s9]>.nx [s0,s1,!tI dl,s3,s4,.o none<|vC C h,.o none<|vC C h',!.int c,!.tup ((mvs h).map EC),s9]:=ym<|EV rfl (Ol C h) rfl<|Ts H C;have Z:=qh (g:=gN 10) (f:=W5 C) (ρ:=[s0,s1,!tI dl,s3,s4,.o none<|vC C h,.o none<|vC C h',!.int c,!.tup ((mvs h).map EC),s9,.un]) EC (λv=>EC<|IM (gi dl) v) (mvs h) λv hv=>⟨_,rfl,(congrArg (λo=>RB o qQ)<|zY (a:=EC v) rfl<|zY (a:=tI dl) rfl rfl).trans<|zPD R.pd (R.ab H hv).1 (R.ab H hv).2⟩
 have e1:(λρ=>((QO (λρ=>((zK 1 (iT<|gV 8) (gN 10) (λ_=>some true)<|W5 C) ρ).map D.lst) EN) ρ).map D.lst) [s0,s1,!tI dl,s3,s4,.o none<|vC C h,.o none<|vC C h',!.int c,!.tup ((mvs h).map EC),s9]>(.lst<|(aO<|(mvs h').map c7).map xK):=by
  have q:zK 1 (iT<|gV 8) (gN 10) (λ_=>some true) (W5 C) [s0,s1,!tI dl,s3,s4,.o none<|vC C h,.o none<|vC C h',!.int c,!.tup ((mvs h).map EC),s9]>((mvs h).map<|IM<|gi dl).map EC:=by
   rw[JA];show pX (ds:=(mvs h).map EC) rfl (by rw[iA];omega) Z
  refine(congrArg (λo=>gC D.lst<|RB (gC D.lst o) EN) q).trans ?_;rw[wA,dA,zW4 (by rw[iA];omega),zPC<|pm.map c7];rfl
 have e2:(λρ=>((QO (WJ C "moves" 6 zN<|tO C) EN) ρ).map D.lst) [s0,s1,!tI dl,s3,s4,.o none<|vC C h,.o none<|vC C h',!.int c,!.tup ((mvs h).map EC),s9]>(.lst<|(aO<|(mvs h').map c7).map xK):=by
  have q:WJ C "moves" 6 zN (tO C) [s0,s1,!tI dl,s3,s4,.o none<|vC C h,.o none<|vC C h',!.int c,!.tup ((mvs h).map EC),s9]>(.tup<|(mvs h').map EC):=EV rfl (Ol C h') rfl<|Ts H' C;refine(congrArg (λo=>gC D.lst<|RB o EN) q).trans ?_;rw[dA,zW5<|01];rfl
 have ER:∀F:aC,nG (bB<|b2 (λρ=>((QO (λρ=>((zK 1 (iT<|gV 8) (gN 10) (λ_=>some true)<|W5 C) ρ).map D.lst) EN) ρ).map D.lst) (λρ=>((QO (WJ C "moves" 6 zN<|tO C) EN) ρ).map D.lst) EG) F (λρ=>some<|Out.nx ρ) [s0,s1,!tI dl,s3,s4,.o none<|vC C h,.o none<|vC C h',!.int c,!.tup ((mvs h).map EC),s9]>.nx [s0,s1,!tI dl,s3,s4,.o none<|vC C h,.o none<|vC C h',!.int c,!.tup ((mvs h).map EC),s9]:=λF=>by
  refine M6 ?_ rfl;unfold bB;rw[qK e1 e2<|Av<|zW6 _];rfl
 cases em:mvs h with
 |nil=>
  have J:∀{x:Hl},HOk k x->HOk (k+1) x:=λX=>X.rows (AC k) (vA X.rn<|AC k) λq hq=>vA (X.rl q hq)<|AC k
  refine⟨h,h',!.tup ((mvs h).map EC),s9,R,J H,J H',(zl I).trans<|(zl<|ER _).trans<|M6 ?_ rfl⟩
  rw[em];rfl
 |cons v0 l0=>
  have hc:(0:Int)<((mvs h).length:Int):=by rw[em,kA];omega
  have a0:=yp c 9829 hc;have a1:=yq c 9829 hc;obtain⟨j,ej⟩:∃j:Nat,GE c 9829 ((mvs h).length:Int)=(j:Int):=⟨(GE c 9829 ((mvs h).length:Int)).toNat,01⟩
  have hj:j<(mvs h).length:=01
  have hv:(mvs h)[j]∈mvs h:=AD _;obtain⟨h1,z,Y,U,S,d1,d2⟩:=R.does H H' 01 01 C hv
  have i1:WA (.tup<|(mvs h).map EC) (.int<|GE c 9829 ((mvs h).length:Int))>EC (mvs h)[j]:=by
   rw[ej];show jT (by simp[hj])
  refine⟨h1,z,!.tup ((mvs h).map EC),!EC (mvs h)[j],Y,U,S,(zl I).trans<|(zl<|ER _).trans<|O6 ?_<|(zl<|ym (d:=EC (mvs h)[j])<|qK (a:=.tup<|(mvs h).map EC) rfl ((congrArg (λo=>RB o zP)<|zY (a:=.int c) rfl<|zY (a:=.int 9829) rfl<|zY (a:=.int ((mvs h).length:Int)) len rfl).trans<|tL 02 hc) i1).trans<|(zl<|Ar (c:=none) (x:=vC C h) (ds:=[EC (mvs h)[j]]) rfl (zWj C h) rfl d1).trans<|Ar (c:=none) (x:=vC C h') (ds:=[EC<|IM (gi dl) (mvs h)[j]]) rfl (zWj C h') ?_ d2⟩
  .change some (not<|((mvs h).map EC).isEmpty)>true;rw[em];rfl
  .show zY ((congrArg (λo=>RB o qQ)<|zY (a:=EC (mvs h)[j]) rfl<|zY (a:=tI dl) rfl rfl).trans<|zPD R.pd (R.ab H hv).1 (R.ab H hv).2) rfl
theorem loop(C:Addr)(s0 s1 s3 s4:Sl):∀(cs:List Int)(k:Nat)(h h':Hl)(s7 s8 s9:Sl),k+cs.length<=90->HR M dl h h'->HOk k h->HOk k h'->∃s5 s6 J U S,zi (gN 7) (Qu C) (cs.map D.int) [s0,s1,!tI dl,s3,s4,.o none<|vC C h,.o none<|vC C h',s7,s8,s9]>.nx [s0,s1,!tI dl,s3,s4,s5,s6,J,U,S]
 | [],k,h,h',s7,s8,s9,_,_,_,_=>⟨_,_,_,_,_,rfl⟩
 |c::cs,k,h,h',s7,s8,s9,hk,R,H,H'=>by
  rw[kA]at hk;obtain⟨h1,O,Y,Z,I,z,j,e⟩:=turn R H H' 01 C c s0 s1 s3 s4 s8 s9;obtain⟨s5,s6,u7,u8,u9,e'⟩:=loop C s0 s1 s3 s4 cs (k+1) h1 O (!.int c) Y Z 01 I z j;show⟨s5,s6,u7,u8,u9,by rw[eA,UR rfl e,e']⟩
end K11
namespace K11
open PySem L2 RD LG K06
theorem zPE(e h:Int):∀(ps:List Pl)(k:Nat)(p:Pl),VG e h ((ps.set k p).map KB)<=VG e h (ps.map KB)+(tH p).length
 | [],k,p=>by simp[VG]
 |q::ps,0,p=>by
  rw[KD,eA,eA,VG,VG]
  have:pU e h (KB p)<=(tH p).length:=by
   cases p with
   |fin=>show EB _
   |tell a b ch=>show vA (WE kT)<|vA (Nat.mul_le_mul_left _<|Tj e h a b)<|WE<|Nat.mul_one _
  omega
 |q::ps,k+1,p=>by
  have:=zPE e h ps k p;rw[XI,eA,eA,VG,VG];omega
theorem zW7(p:Pl):mG (KB p)<=3:=by
 cases p with
 |fin=>show VB rfl
 |tell a b ch=>
  have:=sX (f:=uE) (n:=1) (λq=>VB rfl) ch;dsimp[KB,mG,UH];omega
theorem zW8(m:Int)(ps:List Pl):mG (uB m ps)<=20:=by
 have:=sX zW7 ps;dsimp[uB,mG,UH];omega
theorem zUd(n:Nat):up (n+1)=0::(up n).map (1 + ·):=by
 unfold up;rw[xH,eA,JA,JA]
 congr 1
 show nB λi _=>by change((i+1:Nat):Int)=1+(i:Int);omega
theorem rest(hd:yn m ps)(hf:kJ ps)(C:Addr)(ns:List Int)(hn:ns.length<=63):zLW C [!.lst (ns.map D.int),!uB m ps,.un,.un,.un,.un,.un,.un,.un,.un]>(.rt<|.bl true):=by
 have m1:=hd.m1;have m0:=hd.m0;have n0:=hd.n0;have n1:=hd.n1;have k5:zb [.lst<|ns.map D.int,.int 5]>(.int<|ns.getD 5 0):=A6 02;have k6:zb [.lst<|ns.map D.int,.int 6]>(.int<|ns.getD 6 0):=A6 02;have Y:WA (uB m ps) (.int 0)>.int m:=by dsimp[uB,WA,FI]
 have Z:WA (uB m ps) (.int 1)>(.tup<|ps.map KB):=by dsimp[uB,WA,sN]
 obtain⟨dl,pd,j⟩:=zR3 (ns.getD 5 0) (n:=m.toNat) 01;obtain⟨l,pl,el⟩:=zR3 (ns.getD 6 0) (n:=ps.length-1) 01;rw[show((m.toNat:Nat):Int)=m by omega]at j
 have pn:(0::l.map (1 + ·)).Perm (up ps.length):=by
  rw[show ps.length=ps.length-1+1 by omega,zUd];show(pl.map _).cons 0
 have H:Pm m ps dl (0::l.map (1 + ·)):=⟨hd,pd,pn,rfl⟩
 have ll:l.length<=40:=by have:=SV pl;omega
 have S:=qh (g:=gN 10) (f:=As C) (ρ:=[!.lst (ns.map D.int),!uB m ps,!tI dl,.un,.un,.un,.un,.un,.un,.un,.un]) D.int (λk=>D.int<|1+k) l λk _=>⟨_,rfl,qK (a:=.int 1) (b:=.int k) rfl rfl rfl⟩
 have s11:b2 (λρ=>((zC (zM 0) zN) ρ).map D.tup) (b1 (λρ=>((zK 1 (iT<|λρ=>((zC (λρ=>((zC (gV 0)<|zC (zM 6) zN) ρ).bind zb)<|zC (b2 (b1 (b2 (gR 1) (zM 1) WA) cH) (zM 1) OK) zN) ρ).bind qE) (gN 10) (λ_=>some true)<|As C) ρ).map D.lst) tK) qG [!.lst (ns.map D.int),!uB m ps,!tI dl,.un,.un,.un,.un,.un,.un,.un]>tI (0::l.map (1 + ·)):=by
  have I:(λρ=>((zC (gV 0)<|zC (zM 6) zN) ρ).bind zb) [!.lst (ns.map D.int),!uB m ps,!tI dl,.un,.un,.un,.un,.un,.un,.un]>(.int<|ns.getD 6 0):=k6
  have lm:b2 (b1 (b2 (gR 1) (zM 1) WA) cH) (zM 1) OK [!.lst (ns.map D.int),!uB m ps,!tI dl,.un,.un,.un,.un,.un,.un,.un]>.int ((ps.length-1:Nat):Int):=by
   have x1:b1 (b2 (gR 1) (zM 1) WA) cH [!.lst (ns.map D.int),!uB m ps,!tI dl,.un,.un,.un,.un,.un,.un,.un]>.int (ps.length:Int):=
    (congrArg (λo=>RB o cH)<|qK (a:=uB m ps) (b:=.int 1) rfl rfl Z).trans (by dsimp[dA,cH,iA])
   have x2:OK (.int (ps.length:Int)) (.int 1)>.int ((ps.length-1:Nat):Int):=by
    rw[show((ps.length-1:Nat):Int)=(ps.length:Int)-1 by omega];rfl
   show qK (b:=.int 1) x1 rfl x2
  have q:zK 1 (iT<|λρ=>((zC (λρ=>((zC (gV 0)<|zC (zM 6) zN) ρ).bind zb)<|zC (b2 (b1 (b2 (gR 1) (zM 1) WA) cH) (zM 1) OK) zN) ρ).bind qE) (gN 10) (λ_=>some true) (As C) [!.lst (ns.map D.int),!uB m ps,!tI dl,.un,.un,.un,.un,.un,.un,.un]>(l.map λk=>D.int<|1+k):=by
   refine pX (ds:=l.map D.int) ?_ (by rw[iA];omega) S;have q0:zC (λρ=>((zC (gV 0)<|zC (zM 6) zN) ρ).bind zb) (zC (b2 (b1 (b2 (gR 1) (zM 1) WA) cH) (zM 1) OK) zN) [!.lst (ns.map D.int),!uB m ps,!tI dl,.un,.un,.un,.un,.un,.un,.un]>[.int<|ns.getD 6 0,.int ((ps.length-1:Nat):Int)]:=zY I<|zY lm rfl;unfold iT;show(congrArg (λo=>RB (RB o qE) Ea) q0).trans (by rw[dA,el];rfl)
  refine qK (a:=.tup [.int 0]) (b:=.tup<|l.map λk=>D.int<|1+k) rfl ?_ ?_
  .show(congrArg (λo=>RB (gC D.lst o) tK) q).trans rfl
  .have:qG (.tup [.int 0]) (.tup<|l.map λk=>D.int<|1+k)>(.tup<|[.int 0]++l.map λk=>D.int<|1+k):=by
    dsimp[qG,kA,KC,iA]
    first|rfl|(rw[if_pos<|01])
   rw[this];unfold tI;rw[eA,JA];rfl
 have z:=U0 H;have ml:=zWz H;obtain⟨cs,e3,l3,_⟩:=zTq D.int ns (some 7)<|some 30;generalize 0::l.map (1 + ·)=nl at H z ml s11;refine(zl<|ym (d:=tI dl) ?_).trans ((zl<|ym s11).trans<|(zl<|ym (d:=uB m<|PF dl nl ps) ?_).trans<|(zl<|M6 ?_ rfl).trans ?_)
 .have:zC (λρ=>((zC (gV 0)<|zC (zM 5) zN) ρ).bind zb) (zC (b2 (gR 1) (zM 0) WA) zN) [!.lst (ns.map D.int),!uB m ps,.un,.un,.un,.un,.un,.un,.un,.un]>[.int<|ns.getD 5 0,.int m]:=zY k5<|zY (qK (a:=uB m ps) (b:=.int 0) rfl rfl Y) rfl;show(congrArg (λo=>RB o qE) this).trans j
 .show(congrArg (λo=>RB o d5)<|zY (a:=uB m ps) rfl<|zY (a:=tI dl) rfl<|zY (a:=tI nl) rfl rfl).trans z
 .unfold bB;rw[qK (a:=uB m<|PF dl nl ps) (b:=uB m<|PF dl nl ps) rfl ((congrArg (λo=>RB o qm)<|zY (a:=uB m ps) rfl<|zY (a:=tI dl) rfl<|zY (a:=tI nl) rfl rfl).trans ml)<|Av<|zW8 _ _];rfl
 rcases vZ H hf C with⟨a,b⟩|⟨h,h',R,K,K',a,b,al⟩
 .refine(zl<|J5 (ds:=[uB m ps]) rfl a).trans ((zl<|J5 (ds:=[uB m<|PF dl nl ps]) rfl b).trans ?_);show zWJ<|O6 rfl rfl
 .refine(zl<|J5 (ds:=[uB m ps]) rfl a).trans ((zl<|J5 (ds:=[uB m<|PF dl nl ps]) rfl b).trans<|(zl<|M6 rfl rfl).trans ?_);obtain⟨s5,s6,s7,s8,s9,lp⟩:=loop C (!.lst (ns.map D.int)) (!uB m ps) (!tI nl) (!uB m (PF dl nl ps)) cs 0 h h' .un .un .un 01 R K K';refine(zl<|(TR (ds:=cs.map D.int) ?_).trans lp).trans ?_
  .change(gC D.lst<|some<|zw (ns.map D.int) (some 7)<|some 30).bind Dz=_;rw[e3];rfl
  .refine U5 ?_;show(congrArg (λo=>RB o yl)<|zY (a:=uB m ps) rfl<|zY (a:=uB m<|PF dl nl ps) rfl<|zY (a:=tI dl) rfl rfl).trans (zW2 H al)
theorem law_is(C:Addr)(ns:List Int)(J:ns.length<=63):R0 C [.lst<|ns.map D.int]>.bl true:=by
 obtain⟨m,bX,S,h0,_,z⟩:=zQX ns;have O:zb [.lst<|ns.map D.int,.int 4]>(.int<|ns.getD 4 0):=A6 02;have s1:qF 1 (λρ=>((zC (gV 0) zN) ρ).bind q8) [!.lst (ns.map D.int),.un,.un,.un,.un,.un,.un,.un,.un,.un]>.nx [!.lst (ns.map D.int),!uB m bX,.un,.un,.un,.un,.un,.un,.un,.un]:=(ym S).trans rfl;refine QV<|(zl s1).trans ?_;by_cases I:ns.getD 4 0%3=0
 .obtain⟨ps,h,_,⟨k,p,rfl,hp⟩,U⟩:=zOP h0<|ns.getD 4 0/3;have hf:kJ (bX.set k p):=λe h=>vA (zPE e h bX k p) (by have:=z e h;omega)
  refine(zl (ρ':=[!.lst (ns.map D.int),!uB m (bX.set k p),.un,.un,.un,.un,.un,.un,.un,.un]) ?_).trans (rest h hf C ns J)
  exists 0,O,I,U,beq_self_eq_true,lY,WA
 .have hf:kJ bX:=λe h=>vA (z e h) 02
  have j:(ns.getD 4 0%3==0)=false:=beq_eq_false_iff_ne.mpr I;refine(zl (ρ':=[!.lst (ns.map D.int),!uB m bX,.un,.un,.un,.un,.un,.un,.un,.un]) ?_).trans (rest h0 hf C ns J)
  exists 0,O,j,beq_self_eq_true,lY,WA
end K11
namespace K11
open PySem PySem.Spec PyProof.Rows L2 RD LG
local macro_rules|`(⋯)=>`(by kernel_rfl)
local macro_rules|`(∅)=>`($(Lean.mkIdent `hr).mono (by decide))
local macro_rules|`(tactic|left)=>`(tactic|kernel_rfl)
local macro_rules|`(tactic|right)=>`(tactic|exact ⟨rfl,rfl,rfl,by decide +kernel,rfl,by decide +kernel,by decide +kernel⟩)
structure Cl(K:Fg)(mg:gF)(C:Addr)(κ:Nat->Addr):Prop where
 hK:xJ K C
 IC:qR K C "parts"
 GF:qR K C "at"
 lD:qR K C "rows"
 ND:qR K C "past"
 BC:bW K (κ 0)
 CC:mg "NoPart" = some (.ref<|κ 0)
section
variable {P:Program}{w:World}{K:Fg}{mg:gF}{base:Heap}{κ:Nat->Addr}{C:Addr}
abbrev TD(P:Program)(w:World)(K:Fg)(mg:gF)(base:Heap)(k:Nat)(N:List Str)(q:Str)(st:Stmt)(F:aC):Prop:=∀{fa:Addr}(rC:Value)(A:Around)(outer:List Env)(s:Shared)(H:Hp),IF k (A.deeper<|envOfC q (zI st) s.heap.objs.size fa rC)->QJ (QL EI P w K mg base N q (zI st) fa rC A outer s H E0).nox (yF st) F
abbrev TX(P:Program)(w:World)(K:Fg)(mg:gF)(base:Heap)(κ:Nat->Addr)(k:Nat)(N:List Str)(q:Str)(st:Stmt)(F:lB->Option fG):Prop:=∀{fa:Addr}(rC:Value)(A:Around)(outer:List Env)(s:Shared)(H:Hp)(E:XK),IF k (A.deeper<|envOfC q (zI st) s.heap.objs.size fa rC)->sP (YD P w K mg base N q (zI st) fa rC A outer s H E) κ E (yF st) F
theorem zML:zU Of ["_law_cell_here","_law_prime","_law_many"] (zI Nm):=by right
theorem zPF(z:Bl mg)(j:Cl K mg C κ):TD P w K mg base 0 Of "_law_mix" Nm Og:=by
 intro fa I A outer s H hr;show(zO<|zm<|zc YO (zE<|zc YO (zE<|zc YS (zB 0<|pv 0)<|zE zF)<|zB 1<|pv 1)<|zB 2<|pv 2)
theorem zKP:zU Ms ["_law_script","_law_k"] (zI Lw):=by right
theorem zMM(j:Bl mg)(I:Cl K mg C κ):TD P w K mg base 0 Ms "_law_cell" Lw O9:=by
 intro fa J A outer s H hr;show(zH (qN (yO (zRO) (zB 1<|pv 1) (zE<|z6 zo (gl ⋯) j.len vB<|zB 0<|pv 0)<|zx _) (zO<|zm<|zQ (zB 0<|pv 0)<|zB 1<|pv 1) yG)<|zO<|zm zF)
theorem zGg:zU Lh ["_law_cell_here","_law_many"] (zI Lc):=by right
theorem zH9(I:Bl mg)(z:Cl K mg C κ):TD P w K mg base 0 Lh "_law_is_late" Lc k9:=by
 intro fa J A outer s H hr;have j:=kM hr;show(zO<|zm<|FX (YR (yu j) (zE<|zc YO (zB 0<|pv 0)<|zE zF) (zE zF)<|zx _)<|EX<|YR (GX) (zB 1<|pv 1) (zE zF)<|zx _)
theorem jm:zU Kr ["_law_start","_law_goals","_law_one","_law_others","_law_words"] (zI Kn):=by right
theorem zGI(I:Bl mg)(O:Cl K mg C κ):TD P w K mg base 0 Kr "_law_told_late" Kn jr:=by
 intro fa S A outer s H hr;have J:=kM hr;have j:=jm.nd;show(zH (qv 5 (qS zG) j ⋯ (.inl ⋯))<|zH (qv 6 (qS zG) j ⋯ (.inl ⋯))<|zH (zg 7 (z6 zo (gl ⋯) I.len vB<|zB 3<|pv 3) j ⋯ (.inl ⋯))<|zH (DN PassesOwn.never rfl (Qh (gl ⋯) I.enumerate<|zD 4<|pv 4) (aP rfl<|zu (zS 8 j ⋯ (.inl ⋯) (.inl rfl))<|zu (zS 9 j ⋯ (.inl ⋯) (.inl rfl)) XO)<|zH (zg 10 (zc zX (zE<|zc zX (zB 0<|pv 0)<|zE zF)<|zE<|zc YS (zB 8<|pv 8)<|zB 7<|pv 7) j ⋯ (.inl ⋯))<|zH (qJ 6 (pv 6)<|zW<|zA (zD 9<|pv 9)<|zA (zD 10<|pv 10) zG)<|zH (qJ 5 (pv 5)<|zW<|zA yC<|zA (zD 2<|pv 2)<|zA (zQ (zB 3<|pv 3)<|zE zF)<|zA (zW<|zA (zW<|zA (zQ (zB 4<|pv 4)<|zE zF)<|zA (zc zX (zB 10<|pv 10)<|zE zF) zG) zG) zG)<|zO<|DN PassesOwn.never rfl (zNE (gl ⋯) I.range<|zA zF<|zA (zD 7<|pv 7) zG) (zS 11 j ⋯ (.inl ⋯) (.inl rfl))<|zH (zg 12 (zQ (zE<|zZ<|qS<|zA (zc zX (zE<|zc zX (zB 10<|pv 10)<|zB 11<|pv 11)<|zE zF)<|zA (zQ (zB 1<|pv 1)<|zB 8<|pv 8) zG)<|zE<|z8 Nw (gl ⋯) I.int Cg<|zE<|YR (yu J) (zB 11<|pv 11) (zE<|zc qw (zB 7<|pv 7)<|zE zF)<|zx _) j ⋯ (.inl ⋯))<|zO<|qJ 5 (pv 5)<|zW<|zA yC<|zA (zQ (zB 3<|pv 3)<|zE zF)<|zA (zQ (zB 3<|pv 3)<|zB 11<|pv 11)<|zA (zW<|zA (zW<|zA (zD 9<|pv 9)<|zA (zD 12<|pv 12) zG) zG) zG)<|zO<|zm<|zZ<|v6 (zE<|zZ<|qS<|zA (zW<|zA yC<|zA (zD 2<|pv 2)<|zA (zQ (zB 3<|pv 3)<|zE zF)<|zA (z8 yD (gl ⋯) I.tuple qO<|zB 6<|pv 6) zG) zG)<|zB 5<|pv 5)
theorem xj:zU Mt ["_law_cell_here","_law_j"] (zI Lx):=by right
theorem zMN(j:zq P w K mg base 1 "_law_mix" 3 zP)(S:Bl mg)(U:Cl K mg C κ):TD P w K mg base 1 Mt "_law_word" Lx Mu:=by
 intro fa Y A outer s H hr;have I:=xj.nd;show(zH (zg 2 yC I ⋯ (.inr ⋯))<|zH (zg 3 (zQ (zB 2<|pv 2)<|zE<|zc YO (zE<|zc zX (zE<|zJ j ∅ ⋯ rfl (zA (zD 0<|pv 0)<|zA zF<|zA zF zG))<|zE<|zc YS (zE zF)<|zB 1<|pv 1)<|zE zF) I ⋯ (.inl ⋯))<|zH (zg 4 (zSt<|zE<|zZ<|qI (nm:=["_law_k"]) (m:=1) rfl rfl ⋯ ⋯ (yW (gl ⋯) S.range<|zA (zJ j ∅ ⋯ rfl (zA (zD 0<|pv 0)<|zA zF<|zA zF zG)) zG) (zd<|show 6<=6 by decide) (λC J O ex=>(zS 6 (zk (nm:=["_law_k"]) ⋯) ⋯ (.inl ⋯) (.inr ⋯))) (λC J O ex=>.inl ⟨rfl,rfl⟩) (λC J O ex=>(zQ (zB 2<|pv 2)<|zE<|zJ j ∅ ⋯ rfl (zA (zc zX (zB 0<|pv 0)<|zE<|zc YS (zE zF)<|zB 6<|pv 6)<|zA zF<|zA zF zG)))) I ⋯ (.inl ⋯))<|zH (zg 5 (zJ j ∅ ⋯ rfl (zA (zD 0<|pv 0)<|zA zF<|zA (zc zX (zE<|z6 zo (gl ⋯) S.len vB<|zB 4<|pv 4)<|zE zF) zG)) I ⋯ (.inl ⋯))<|zO<|zm<|zc zX (zE<|zc zX (zE<|yo (zB 4<|pv 4) qZ<|qH<|zD 5<|pv 5)<|zB 3<|pv 3)<|zE<|yo (zB 4<|pv 4) (qH<|zD 5<|pv 5) qZ)
theorem jh:zU Li ["_law_cell_here","_law_start","_law_many","_law_goals"] (zI Ld):=by right
theorem zIA(S:zq P w K mg base 1 "_law_mix" 3 zP)(U:zq P w K mg base 1 "_law_is_late" 2 yP)(Y:zq P w K mg base 1 "_law_told_late" 5 yw)(Z:zq P w K mg base 2 "_law_word" 2 yI)(O:Bl mg)(bD:Cl K mg C κ):TD P w K mg base 2 Li "_law_told_on" Ld kq:=by
 intro fa rC A outer s H hr;have j:=jh.nd;show(zH (zg 4 (zJ S ∅ ⋯ rfl (zA (zD 0<|pv 0)<|zA zF<|zA (zD 2<|pv 2) zG)) j ⋯ (.inr ⋯))<|zH (Mr 5 (nm:=["_law_k"]) (m:=1) rfl rfl ⋯ ⋯ (yW (gl ⋯) O.range<|zA (zc qw (zB 2<|pv 2)<|zE zF) zG) (zd<|show 13<=13 by decide) (λC I J ex=>(zS 13 (zk (nm:=["_law_k"]) ⋯) ⋯ (.inl ⋯) (.inr ⋯))) (λC I J ex=>.inl ⟨rfl,rfl⟩) (λC I J ex=>(zc YO (zE<|zc zX (zE<|zc zX (zB 4<|pv 4)<|zE zF)<|zE<|zc YO (zE<|zc zX (zB 13<|pv 13)<|zE<|zJ S ∅ ⋯ rfl (zA (zD 0<|pv 0)<|zA zF<|zA (zc qw (zB 2<|pv 2)<|zE zF) zG))<|zE<|zc qw (zB 2<|pv 2)<|zE zF)<|zB 2<|pv 2)) j ⋯ (.inl ⋯))<|zH (zg 6 (zZ<|Ae zGu (gl ⋯) O.sorted mX<|zE<|zZ<|qI (nm:=["_law_j"]) (m:=1) rfl rfl ⋯ ⋯ (yW (gl ⋯) O.range<|zA (zc zX (zE zF)<|zE<|zJ S ∅ ⋯ rfl (zA (zD 0<|pv 0)<|zA zF<|zA zF zG)) zG) (zd<|show 13<=13 by decide) (λC I J ex=>(zS 13 (zk (nm:=["_law_j"]) ⋯) ⋯ (.inl ⋯) (.inr ⋯))) (λC I J ex=>.inl ⟨rfl,rfl⟩) (λC I J ex=>(zJ Z ∅ ⋯ rfl (zA (zD 0<|pv 0)<|zA (zD 13<|pv 13) zG)))) j ⋯ (.inl ⋯))<|zH (qN (OV<|zE<|zJ U ∅ ⋯ rfl (zA (zD 0<|pv 0)<|zA (zD 2<|pv 2) zG)) (zO<|zm<|zJ Y ∅ ⋯ rfl (zA (zD 1<|pv 1)<|zA (zD 3<|pv 3)<|zA (zD 4<|pv 4)<|zA (zD 5<|pv 5)<|zA (zD 6<|pv 6) zG)) yG)<|zH (qv 7 (qS zG) j ⋯ (.inl ⋯))<|zH (qv 8 (qS zG) j ⋯ (.inl ⋯))<|zH (DN PassesOwn.never rfl (Qh (gl ⋯) O.enumerate<|zD 6<|pv 6) (aP rfl<|zu (zS 9 j ⋯ (.inr ⋯) (.inl rfl))<|zu (zS 10 j ⋯ (.inl ⋯) (.inl rfl)) XO)<|zH (zg 11 (zZ<|v6 (zE<|zZ<|qI (nm:=["_law_k"]) (m:=1) rfl rfl ⋯ ⋯ (yW (gl ⋯) O.range<|zA (zc qw (zB 2<|pv 2)<|zE zF) zG) (zd<|show 13<=13 by decide) (λC I J ex=>(zS 13 (zk (nm:=["_law_k"]) ⋯) ⋯ (.inl ⋯) (.inr ⋯))) (λC I J ex=>.inl ⟨rfl,rfl⟩) (λC I J ex=>(zc zX (zE<|zc zX (zE<|zc zX (zB 1<|pv 1)<|zE zF)<|zE<|zc YS (zB 9<|pv 9)<|zE<|zc qw (zB 2<|pv 2)<|zE zF)<|zB 13<|pv 13)))<|zE<|zZ<|qS<|zA (zQ (zB 3<|pv 3)<|zB 9<|pv 9) zG) j ⋯ (.inl ⋯))<|zH (qJ 8 (pv 8)<|zW<|zA (zD 10<|pv 10)<|zA (zQ (zB 11<|pv 11)<|zE zF) zG)<|zO<|DN PassesOwn.never rfl (yW (gl ⋯) O.range<|zA (zc qw (zB 2<|pv 2)<|zE zF) zG) (zS 12 j ⋯ (.inl ⋯) (.inl rfl))<|zO<|qJ 7 (pv 7)<|zW<|zA yC<|zA (zD 4<|pv 4)<|zA (zQ (zB 5<|pv 5)<|zE<|zc zX (zB 12<|pv 12)<|zE zF)<|zA (zW<|zA (zW<|zA (zD 10<|pv 10)<|zA (zQ (zB 11<|pv 11)<|zE<|zc zX (zB 12<|pv 12)<|zE zF) zG) zG) zG)<|zO<|zm<|zZ<|v6 (zE<|zZ<|qS<|zA (zW<|zA yC<|zA (zD 4<|pv 4)<|zA (zQ (zB 5<|pv 5)<|zE zF)<|zA (z8 yD (gl ⋯) O.tuple qO<|zB 8<|pv 8) zG) zG)<|zB 7<|pv 7)
theorem xk:zU Mw ["_law_cell_here","_law_many"] (zI Ly):=by right
theorem zMO(J:zq P w K mg base 1 "_law_is_late" 2 yP)(j:zq P w K mg base 1 "_law_mix" 3 zP)(I:Bl mg)(S:Cl K mg C κ):TD P w K mg base 1 Mw "_law_size" Ly Mx:=by
 intro fa U A outer s H hr;have O:=xk.nd;show(zH (zg 2 (zc zX (zE<|zc qw (zB 1<|pv 1)<|zE zF)<|zE<|z8 Nw (gl ⋯) I.int Cg<|zE<|zJ J ∅ ⋯ rfl (zA (zD 0<|pv 0)<|zA (zD 1<|pv 1) zG)) O ⋯ (.inl ⋯))<|zO<|zm<|zc zX (zE<|zc zX (zE zF)<|zE<|zc YS (zE<|zc zX (zE zF)<|zE<|zJ j ∅ ⋯ rfl (zA (zD 0<|pv 0)<|zA zF<|zA zF zG))<|zB 2<|pv 2)<|zE<|z8 Nw (gl ⋯) I.int Cg<|zE<|YR (GX) (zE<|zJ j ∅ ⋯ rfl (zA (zD 0<|pv 0)<|zA zF<|zA zF zG)) (zE zF)<|zx _)
theorem jn:zU Kv ["_law_cell_here","_law_here","_law_many","_law_goal"] (zI Ko):=by right
theorem zGL(j:zq P w K mg base 1 "_law_mix" 3 zP)(I:zq P w K mg base 2 "_law_word" 2 yI)(J:Bl mg)(S:Cl K mg C κ):TD P w K mg base 2 Kv "_law_apart_two" Ko qe:=by
 intro fa U A outer s H hr;have O:=kM hr;have z:=jn.nd;show(zH (zg 4 (zJ j ∅ ⋯ rfl (zA (zD 0<|pv 0)<|zA zF<|zA (zD 2<|pv 2) zG)) z ⋯ (.inl ⋯))<|zH (zg 5 (zc YO (zE<|zc zX (zE<|zc zX (zB 4<|pv 4)<|zE zF)<|zE<|zJ j ∅ ⋯ rfl (zA (zD 0<|pv 0)<|zA zF<|zA (zc qw (zB 2<|pv 2)<|zE zF) zG))<|zB 2<|pv 2) z ⋯ (.inl ⋯))<|zH (zg 6 (zZ<|Ae zGu (gl ⋯) J.sorted mX<|zE<|zZ<|qS<|zA (zJ I ∅ ⋯ rfl (zA (zc zX (zB 0<|pv 0)<|zE zF)<|zA zF zG))<|zA (zJ I ∅ ⋯ rfl (zA (zc zX (zB 0<|pv 0)<|zE zF)<|zA zF zG)) zG) z ⋯ (.inl ⋯))<|zH (qN (yO (yu O) (zE<|zJ j ∅ ⋯ rfl (zA (zD 0<|pv 0)<|zA zF<|zA zF zG)) (zE zF)<|zx _) (zO<|zm<|zW<|zA yC<|zA (zD 4<|pv 4)<|zA (zD 5<|pv 5)<|zA (zW<|zA (zW<|zA (zQ (zB 6<|pv 6)<|zE zF)<|zA (zD 3<|pv 3) zG) zG) zG) yG)<|zO<|zm<|zW<|zA yC<|zA (zD 4<|pv 4)<|zA (zD 5<|pv 5)<|zA (zW<|zA (zW<|zA (zQ (zB 6<|pv 6)<|zE zF)<|zA (zQ (zE<|zZ<|qS<|zA (zD 1<|pv 1)<|zA (zD 3<|pv 3) zG)<|zE<|zc YO (zB 0<|pv 0)<|zE zF) zG)<|zA (zW<|zA (zQ (zB 6<|pv 6)<|zE zF)<|zA (zQ (zE<|zZ<|qS<|zA (zD 3<|pv 3)<|zA (zD 1<|pv 1) zG)<|zE<|zc YO (zB 0<|pv 0)<|zE zF) zG) zG) zG)
theorem vm:zU Mf ["_law_script"] (zI Mb):=by right
theorem zKQ(O:zq P w K mg base 1 "_law_mix" 3 zP)(U:zq P w K mg base 1 "_law_cell" 2 zb)(Y:zq P w K mg base 3 "_law_told_on" 4 qd)(Z:zq P w K mg base 2 "_law_size" 2 R4)(kF:zq P w K mg base 3 "_law_apart_two" 4 yY)(S:Bl mg)(bD:Cl K mg C κ):TD P w K mg base 3 Mf "_law_dance" Mb D9:=by
 intro fa rC A outer s H hr;have j:=vm.nd;show(zH (zg 1 (zc zX (zE zF)<|zE<|zJ O ∅ ⋯ rfl (zA (zJ U ∅ ⋯ rfl (zA (zD 0<|pv 0)<|zA zF zG))<|zA zF<|zA zF zG)) j ⋯ (.inl ⋯))<|zH (Mr 2 (nm:=["_law_k"]) (m:=1) rfl rfl ⋯ ⋯ (yW (gl ⋯) S.range<|zA (zc zX (zE zF)<|zE<|zJ O ∅ ⋯ rfl (zA (zJ U ∅ ⋯ rfl (zA (zD 0<|pv 0)<|zA zF zG))<|zA zF<|zA zF zG)) zG) (zd<|show 9<=9 by decide) (λC I J ex=>(zS 9 (zk (nm:=["_law_k"]) ⋯) ⋯ (.inl ⋯) (.inr ⋯))) (λC I J ex=>.inl ⟨rfl,rfl⟩) (λC I J ex=>(zJ U ∅ ⋯ rfl (zA (zD 0<|pv 0)<|zA (zc zX (zE zF)<|zB 9<|pv 9) zG))) j ⋯ (.inl ⋯))<|zH (qv 3 (qS<|zA zF zG) j ⋯ (.inr ⋯))<|zH (DN PassesOwn.never rfl (HV<|zD 2<|pv 2) (zS 4 j ⋯ (.inr ⋯) (.inl rfl))<|zO<|qJ 3 (pv 3)<|zc zX (zE<|zQ (zB 3<|pv 3)<|zE<|r6<|zE zF)<|zE<|zJ Z ∅ ⋯ rfl (zA (zD 4<|pv 4)<|zA (zD 1<|pv 1) zG))<|zH (qv 5 (qS zG) j ⋯ (.inl ⋯))<|zH (DN PassesOwn.never rfl (Qh (gl ⋯) S.enumerate<|zD 2<|pv 2) (aP rfl<|zu (zS 6 j ⋯ (.inl ⋯) (.inl rfl))<|zu (zS 4 j ⋯ (.inr ⋯) (.inl rfl)) XO)<|zH (wk 7 (nm:=["_law_j"]) (m:=1) rfl rfl ⋯ ⋯ (yW (gl ⋯) S.range<|zA zF zG) (zd<|show 9<=9 by decide) (λC I J ex=>(zS 9 (zk (nm:=["_law_j"]) ⋯) ⋯ (.inl ⋯) (.inr ⋯))) (λC I J ex=>.inl ⟨rfl,rfl⟩) (λC I J ex=>(zQ (zB 3<|pv 3)<|zE<|zJ O ∅ ⋯ rfl (zA (zc zX (zB 4<|pv 4)<|zE<|zc YS (zE zF)<|zB 9<|pv 9)<|zA zF<|zA (z6 zo (gl ⋯) S.len vB<|zB 3<|pv 3) zG))) j ⋯ (.inl ⋯))<|zH (zg 8 (zQ (zB 7<|pv 7)<|zE zF) j ⋯ (.inl ⋯))<|zH (qN (yO (GX) (zE<|zJ O ∅ ⋯ rfl (zA (zD 4<|pv 4)<|zA zF<|zA zF zG)) (zE zF)<|zx _) (zO<|zKr 7 (pv 7) zF<|zc qw (zE<|zQ (zB 3<|pv 3)<|zE<|zc zX (zB 6<|pv 6)<|zE zF)<|zE zF) yG)<|zVb 7<|zH (qv 5 (v6 (zB 5<|pv 5)<|zE<|zJ Y ∅ ⋯ rfl (zA (zD 4<|pv 4)<|zA (zQ (zB 3<|pv 3)<|zB 6<|pv 6)<|zA (zD 1<|pv 1)<|zA (zD 7<|pv 7) zG)) j ⋯ (.inl ⋯))<|zO<|qN (yO (GX) (zE<|zJ O ∅ ⋯ rfl (zA (zD 4<|pv 4)<|zA zF<|zA zF zG)) (zE zF)<|zx _) (zO<|qJ 5 (pv 5)<|zJ kF ∅ ⋯ rfl (zA (zD 4<|pv 4)<|zA (zc qw (zE<|zQ (zB 3<|pv 3)<|zE<|zc zX (zB 6<|pv 6)<|zE zF)<|zE zF)<|zA (zD 1<|pv 1)<|zA (zD 8<|pv 8) zG)) yG)<|zO<|zm<|zW<|zA (zD 1<|pv 1)<|zA (z8 yD (gl ⋯) S.tuple qO<|zE<|zZ<|v6 (zB 5<|pv 5)<|zE<|zZ<|qS<|zA (zW<|zA yC zG) zG) zG)
theorem xl:zU Nh ["_law_cell_here","_law_many"] (zI Lz):=by right
theorem zMP(J:zq P w K mg base 1 "_law_mix" 3 zP)(j:Bl mg)(S:Cl K mg C κ):TD P w K mg base 1 Nh "_law_perm" Lz zHF:=by
 intro fa U A outer s H hr;have O:=xl.nd;show(zH (qv 2 (zIx rfl (gl ⋯) j.list (gl ⋯) j.range<|zA (zD 1<|pv 1) zG) O ⋯ (.inr ⋯))<|zO<|zOA 2 (nm:=["_law_k"]) (m:=1) rfl rfl ⋯ ⋯ (yW (gl ⋯) j.range<|zA (zD 1<|pv 1) zG) (zd<|show 3<=3 by decide) (show 2<3 by decide) (λC z I ex=>(zS 3 (zk (nm:=["_law_k"]) ⋯) ⋯ (.inl ⋯) (.inr ⋯))) (λC z I ex=>zWH 2 (pv 2)<|zJ J ∅ ⋯ rfl (zA (zc zX (zB 0<|pv 0)<|zE<|zc YS (zE zF)<|zB 3<|pv 3)<|zA zF<|zA (zc qw (zB 1<|pv 1)<|zB 3<|pv 3) zG)) (gl ⋯) j.tuple)
theorem jp:zU Kh ["place","dancers","numbers"] (zI Kp):=by right
theorem zGN(O:Bl mg)(U:Cl K mg C κ):TD P w K mg base 0 Kh "renamed_place" Kp ql:=by
 intro fa Y A outer s H hr;have S:=kM hr;have J:=jp.nd;show(zH (qN (yO (yu S) (zE<|zQ (zB 0<|pv 0)<|zE zF) (zE yC)<|zx _) (zO<|zm<|zD 0<|pv 0) yG)<|zH (zg 3 (z8 yD (gl ⋯) O.tuple qO<|zE<|zZ<|qI (nm:=["word","number"]) (m:=2) rfl rfl ⋯ ⋯ (TM<|zQ (zB 0<|pv 0)<|zE zF) (Ah<|US (zd<|show 4<=4 by decide)<|US (zd<|show 4<=5 by decide) X9) (λC j I ex=>(aP rfl<|zu (zS 4 (zk (nm:=["word","number"]) ⋯) ⋯ (.inl ⋯) (.inr ⋯))<|zu (zS 5 (zk (nm:=["word","number"]) ⋯) ⋯ (.inl ⋯) (.inr ⋯)) XO)) (λC j I ex=>.inl ⟨rfl,rfl⟩) (λC j I ex=>(zW<|zA (zD 4<|pv 4)<|zA (zQ (zB 2<|pv 2)<|zB 5<|pv 5) zG))) J ⋯ (.inl ⋯))<|zO<|zm<|zW<|zA yC<|zA (zQ (zB 1<|pv 1)<|zE<|zQ (zB 0<|pv 0)<|zE zF)<|zA (zQ (zB 1<|pv 1)<|zE<|zQ (zB 0<|pv 0)<|zE zF)<|zA (zD 3<|pv 3) zG)
theorem zHH:zU Oj ["dance","dancers","numbers"] (zI Np):=by right
theorem zPG(U:zq P w K mg base 1 "renamed_place" 3 yb)(I:Bl mg)(Y:Cl K mg C κ):TD P w K mg base 1 Oj "renamed" Np zJL:=by
 intro fa Z A outer s H hr;have O:=gS hr;have j:=zHH.nd;show(zH (zg 3 (zQ (zB 0<|pv 0)<|zE zF) j ⋯ (.inl ⋯))<|zH (Mq 4 j ⋯ (.inr ⋯))<|zH (DN PassesOwn.never rfl (zK4 (gl ⋯) I.enumerate<|zD 3<|pv 3) (aP rfl<|zu (zS 5 j ⋯ (.inl ⋯) (.inl rfl))<|zu (zS 6 j ⋯ (.inl ⋯) (.inl rfl)) XO)<|zO<|Qi O 4 (pv 4) (zQ (zB 2<|pv 2)<|zB 5<|pv 5)<|zJ U ∅ ⋯ rfl (zA (zD 6<|pv 6)<|zA (zD 1<|pv 1)<|zA (zD 2<|pv 2) zG))<|zO<|zm<|zW<|zA (zQ (zB 0<|pv 0)<|zE zF)<|zA (z8 yD (gl ⋯) I.tuple qO<|zE<|zZ<|qI (nm:=["number"]) (m:=1) rfl rfl ⋯ ⋯ (yW (gl ⋯) I.range<|zA (z6 zo (gl ⋯) I.len vB<|zB 3<|pv 3) zG) (zd<|show 7<=7 by decide) (λC J S ex=>(zS 7 (zk (nm:=["number"]) ⋯) ⋯ (.inl ⋯) (.inr ⋯))) (λC J S ex=>.inl ⟨rfl,rfl⟩) (λC J S ex=>(zSx O 4 (pv 4)<|zD 7<|pv 7))) zG)
theorem zIB:zU Lr ["place","dancer"] (zI Lm):=by right
theorem zJS(I:Bl mg)(z:Cl K mg C κ):TD P w K mg base 0 Lr "takes_part" Lm w9:=by
 intro fa J A outer s H hr;have j:=kM hr;show(zO<|zm<|FX (YR (yu j) (zE<|zQ (zB 0<|pv 0)<|zE zF) (zE yC)<|zx _)<|EX<|zVf j (zD 1<|pv 1) (zE<|zW<|zA (zQ (zB 0<|pv 0)<|zE zF)<|zA (zQ (zB 0<|pv 0)<|zE zF) zG)<|by rfl)
theorem zMQ:zU Ni ["place","dancer"] (zI Nq):=by right
theorem zPH(j:zq P w K mg base 1 "takes_part" 2 ye)(J:Bl mg)(I:Cl K mg C κ):TD P w K mg base 1 Ni "is_turn" Nq Aa:=by
 intro fa O A outer s H hr;have z:=kM hr;show(zO<|zm<|U2 (YR (yu z) (zE<|zQ (zB 0<|pv 0)<|zE zF) (zE yC)<|zx _)<|EX<|zJ j ∅ ⋯ rfl (zA (zD 0<|pv 0)<|zA (zD 1<|pv 1) zG))
theorem jj:zU Lj ["dance","dancer","some"] (zI Le):=by right
theorem zIC(I:zq P w K mg base 2 "is_turn" 2 kX)(S:Bl mg)(O:Cl K mg C κ):TD P w K mg base 2 Lj "turns_among" Le Lk:=by
 intro fa U A outer s H hr;have J:=jj.nd;show(zH (Mr 3 (nm:=["number"]) (m:=1) rfl rfl ⋯ ⋯ (TM<|zD 2<|pv 2) (zd<|show 4<=4 by decide) (λC j z ex=>(zS 4 (zk (nm:=["number"]) ⋯) ⋯ (.inl ⋯) (.inr ⋯))) (λC j z ex=>.inl ⟨rfl,rfl⟩) (λC j z ex=>(zQ (zE<|zQ (zB 0<|pv 0)<|zE zF)<|zB 4<|pv 4)) J ⋯ (.inl ⋯))<|zO<|zm<|zZ<|qI (nm:=["place"]) (m:=1) rfl rfl ⋯ ⋯ (HV<|zD 3<|pv 3) (zd<|show 4<=4 by decide) (λC j z ex=>(zS 4 (zk (nm:=["place"]) ⋯) ⋯ (.inl ⋯) (.inr ⋯))) (λC j z ex=>.inr ⟨_,rfl,(OV<|zE<|zJ I ∅ ⋯ rfl (zA (zD 4<|pv 4)<|zA (zD 1<|pv 1) zG))⟩) (λC j z ex=>(zD 4<|pv 4)))
theorem zID:zU Lq ["place"] (zI Ln):=by right
theorem zJT(I:Bl mg)(z:Cl K mg C κ):TD P w K mg base 0 Lq "choices_of" Ln v9:=by
 intro fa J A outer s H hr;have j:=kM hr;show(zH (qN (yO (yu j) (zE<|zQ (zB 0<|pv 0)<|zE zF) (zE yC)<|zx _) (zO<|zm<|zW zG) yG)<|zO<|zm<|zQ (zB 0<|pv 0)<|zE zF)
theorem zLe:zU Pv ["dance","dancer","some"] (zI Py):=by right
theorem zUe(Y:zq P w K mg base 1 "takes_part" 2 ye)(U:zq P w K mg base 1 "choices_of" 1 yd)(I:Bl mg)(Z:Cl K mg C κ):TD P w K mg base 1 Pv "apart" Py Pw:=by
 intro fa rC A outer s H hr;have O:=gS hr;have j:=zLe.nd;show(zH (zg 3 (zQ (zB 0<|pv 0)<|zE zF) j ⋯ (.inl ⋯))<|zH (Mq 4 j ⋯ (.inl ⋯))<|zH (qv 5 (zND zNJ (gl ⋯) I.list zRS<|zB 2<|pv 2) j ⋯ (.inl ⋯))<|zH (zPk 300 PassesOwn.never (yO (GX) (zE<|z6 zo (gl ⋯) I.len vB<|zB 5<|pv 5) (zE zF)<|zx _)<|zH (zVn 6 5 (pv 5) j ⋯ (.inl ⋯))<|zH (qN (zVl O 4 (pv 4)<|zD 6<|pv 6) (zO zSp) yG)<|zH (Qi O 4 (pv 4) (zD 6<|pv 6) RX)<|zO<|qN (Rj<|OV<|zE<|zJ Y ∅ ⋯ rfl (zA (zQ (zB 3<|pv 3)<|zB 6<|pv 6)<|zA (zD 1<|pv 1) zG)) (zO<|zIj 5 (pv 5)<|qI (nm:=["choice"]) (m:=1) rfl rfl ⋯ ⋯ (TM<|zJ U ∅ ⋯ rfl (zA (zQ (zB 3<|pv 3)<|zB 6<|pv 6) zG)) (zd<|show 7<=7 by decide) (λC J S ex=>(zS 7 (zk (nm:=["choice"]) ⋯) ⋯ (.inl ⋯) (.inr ⋯))) (λC J S ex=>.inl ⟨rfl,rfl⟩) (λC J S ex=>(zQ (zB 7<|pv 7)<|zE zF))) yG)<|zO<|zm<|z8 yD (gl ⋯) I.tuple qO<|zE<|zZ<|zPw 4 rfl (gl ⋯) I.sorted<|pv 4)
theorem zHI:zU Nj ["dance","dancer"] (zI Nr):=by right
theorem zPI(O:zq P w K mg base 3 "turns_among" 3 yR)(J:zq P w K mg base 2 "apart" 3 qi)(j:Bl mg)(Z:Cl K mg C κ):TD P w K mg base 3 Nj "in_vain" Nr Y4:=by
 intro fa rC A outer s H hr;have U:=kM hr;have S:=gS hr;have I:=zHI.nd;show(zH (Mq 2 I ⋯ (.inl ⋯))<|zH (DN PassesOwn.never rfl (yW (gl ⋯) j.range<|zA (z6 zo (gl ⋯) j.len vB<|zE<|zQ (zB 0<|pv 0)<|zE zF) zG) (zS 3 I ⋯ (.inl ⋯) (.inl rfl))<|zO<|qN (yO (yu U) (zE<|z6 zo (gl ⋯) j.len vB<|zE<|zJ O ∅ ⋯ rfl (zA (zD 0<|pv 0)<|zA (zD 1<|pv 1)<|zA (zJ J ∅ ⋯ rfl (zA (zD 0<|pv 0)<|zA (zD 1<|pv 1)<|zA (zW<|zA (zD 3<|pv 3) zG) zG)) zG)) (zE zF)<|zx _) (zO<|Qi S 2 (pv 2) (zD 3<|pv 3) RX) yG)<|zO<|zNo 2<|pv 2)
theorem zBN:zU ya ["dancer","some","turns","vain"] (zI yU):=by right
theorem zBb(J:Bl mg)(S:Cl K mg C κ):TX P w K mg base κ 0 ya "refuse_waiting_in_vain" yU zr:=by
 intro fa U A outer s H E hr;have O:=gS hr;obtain⟨hK,IC,GF,lD,ND,BC,CC⟩:=S;show(Rm<|zVu (mV<|zVX (yO (GX) (zE<|z6 zo (gl ⋯) J.len vB<|zB 2<|pv 2) (zE zF)<|zx _)<|zSn<|OV<|zE<|z6 (zNX rfl) (gl ⋯) J.any SY<|zE<|zZ<|qI (nm:=["number"]) (m:=1) rfl rfl ⋯ ⋯ (TM<|zD 1<|pv 1) (zd<|show 4<=4 by decide) (λC j I ex=>(zS 4 (zk (nm:=["number"]) ⋯) ⋯ (.inl ⋯) (.inr ⋯))) (λC j I ex=>.inl ⟨rfl,rfl⟩) (λC j I ex=>(zV2 O 3 (pv 3)<|zD 4<|pv 4))) (Rm<|zKt 0 BC (gl ⋯) CC<|zA (zNe<|zB 0<|pv 0) zG)<|xX yG)
theorem zKR:zU My ["turn","dancer"] (zI Ma):=by right
theorem zMR(O:Bl mg)(S:Cl K mg C κ):TD P w K mg base 0 My "asked_at" Ma P9:=by
 intro fa U A outer s H hr;have J:=kM hr;show(zH (qN (yO (yu J) (zE<|zQ (zB 0<|pv 0)<|zE zF) (zE yC)<|zx _) (zO<|zm<|zW<|zA yC zG) yG)<|zH (qN (yO (yu J) (zE<|zQ (zB 0<|pv 0)<|zE zF) (zB 1<|pv 1)<|zx _) (zO<|zm<|zW<|zA yC<|zA (zQ (zB 0<|pv 0)<|zE zF)<|zA (z8 yD (gl ⋯) O.tuple qO<|zE<|zZ<|qI (nm:=["choice"]) (m:=1) rfl rfl ⋯ ⋯ (TM<|zQ (zB 0<|pv 0)<|zE zF) (zd<|show 2<=2 by decide) (λC j I ex=>(zS 2 (zk (nm:=["choice"]) ⋯) ⋯ (.inl ⋯) (.inr ⋯))) (λC j I ex=>.inl ⟨rfl,rfl⟩) (λC j I ex=>(zQ (zB 2<|pv 2)<|zE zF))) zG) yG)<|zO<|zm<|zW<|zA yC<|zA (zQ (zB 0<|pv 0)<|zE zF) zG)
theorem jt:zU Lb ["turns","dancer"] (zI Ky):=by right
theorem zGh(I:zq P w K mg base 1 "asked_at" 2 CV)(S:Bl mg)(Y:Cl K mg C κ):TX P w K mg base κ 1 Lb "asked_at_all" Ky j9:=by
 intro fa rC A outer s H E hr;have U:=kM hr;have Z:=jt.nd;obtain⟨hK,IC,GF,lD,ND,BC,CC⟩:=Y;show(qy (tT<|qN (yO (yu U) (zE<|z6 zo (gl ⋯) S.len vB<|zB 0<|pv 0) (zE zF)<|zx _) (zO<|zm<|zW<|zA yC zG) yG)<|qy (tT<|zg 2 (zJ I ∅ ⋯ rfl (zA (zQ (zB 0<|pv 0)<|zE zF)<|zA (zD 1<|pv 1) zG)) Z ⋯ (.inr ⋯))<|qy (zVu (Rj<|OV<|zE<|z6 (zNW rfl) (gl ⋯) S.all RY<|zE<|zZ<|qI (nm:=["turn"]) (m:=1) rfl rfl ⋯ ⋯ (HV<|zD 0<|pv 0) (zd<|show 3<=3 by decide) (λC J O ex=>(zS 3 (zk (nm:=["turn"]) ⋯) ⋯ (.inl ⋯) (.inr ⋯))) (λC J O ex=>.inl ⟨rfl,rfl⟩) (λC J O ex=>(YR (yu U) (zE<|zJ I ∅ ⋯ rfl (zA (zD 3<|pv 3)<|zA (zD 1<|pv 1) zG)) (zB 2<|pv 2)<|zx _))) (Rm<|zKt 0 BC (gl ⋯) CC<|zA (zNe<|zB 1<|pv 1) zG)<|xX yG)<|xX<|zO<|zm<|zD 2<|pv 2)
theorem jq:zU Kf ["turns"] (zI Kq):=by right
theorem zGO(I:zq P w K mg base 1 "choices_of" 1 yd)(O:Bl mg)(J:Cl K mg C κ):TD P w K mg base 1 Kf "nexts_by_word" Kq Kg:=by
 intro fa S A outer s H hr;have z:=gS hr;have j:=jq.nd;show(zH (zP7 1 j ⋯ (.inl ⋯))<|zH (DN PassesOwn.never rfl (HV<|zD 0<|pv 0) (zS 2 j ⋯ (.inl ⋯) (.inl rfl))<|zO<|DN PassesOwn.never rfl (TM<|zJ I ∅ ⋯ rfl (zA (zD 2<|pv 2) zG)) (aP rfl<|zu (zS 3 j ⋯ (.inl ⋯) (.inl rfl))<|zu (zS 4 j ⋯ (.inl ⋯) (.inl rfl)) XO)<|zO<|zP9 1 z (pv 1) (zD 3<|pv 3)<|zD 4<|pv 4)<|zO<|zNo 1<|pv 1)
theorem zHJ:zU Nk ["dance","dancer"] (zI Nt):=by right
theorem zPJ(Z:kW P w K mg base 4 "in_vain" 2 VS)(O:zq P w K mg base 2 "apart" 3 qi)(Y:zq P w K mg base 3 "turns_among" 3 yR)(eD:Tc P w K mg base κ 1 "refuse_waiting_in_vain" 4 zt)(U:dW P w K mg base κ 2 "asked_at_all" 2 yH)(mF:kW P w K mg base 2 "nexts_by_word" 1 yx)(I:Bl mg)(bD:Cl K mg C κ):TX P w K mg base κ 4 Nk "part_of" Nt Nl:=by
 intro fa rC A outer s H E hr;have hu:=kM hr;have J:=gS hr;have j:=zHJ.nd;show(qy (tT<|Bd 2 Z ∅ ⋯ rfl (zA (zD 0<|pv 0)<|zA (zD 1<|pv 1) zG) j ⋯ (.inl ⋯))<|qy (tT<|qv 3 (qS<|zA (zJ O ∅ ⋯ rfl (zA (zD 0<|pv 0)<|zA (zD 1<|pv 1)<|zA (zW<|zA zF zG) zG)) zG) j ⋯ (.inl ⋯))<|qy (tT<|zTM J 4 (zQ (zB 3<|pv 3)<|zE zF) zF j ⋯ (.inl ⋯))<|qy (tT<|qv 5 (qS zG) j ⋯ (.inl ⋯))<|qy (zPz 20000000 wt (yO (zRO) (zE<|z6 zo (gl ⋯) I.len vB<|zB 5<|pv 5) (zE<|z6 zo (gl ⋯) I.len vB<|zB 3<|pv 3)<|zx _)<|qy (tT<|zg 6 (zQ (zB 3<|pv 3)<|zE<|z6 zo (gl ⋯) I.len vB<|zB 5<|pv 5) j ⋯ (.inl ⋯))<|qy (tT<|zg 7 (zJ Y ∅ ⋯ rfl (zA (zD 0<|pv 0)<|zA (zD 1<|pv 1)<|zA (zD 6<|pv 6) zG)) j ⋯ (.inl ⋯))<|qy (zS6<|zQB eD zNZ ∅ ⋯ rfl (Pa (zD 1<|pv 1)<|Pa (zD 6<|pv 6)<|Pa (zD 7<|pv 7)<|zTO 2<|pv 2))<|qy (zVv 8 (Qj U zNZ ∅ ⋯ rfl (zA (zD 7<|pv 7)<|zA (zD 1<|pv 1) zG)) j ⋯ (.inl ⋯))<|xX<|zH (Bd 9 mF ∅ ⋯ rfl (zA (zD 7<|pv 7) zG) j ⋯ (.inl ⋯))<|zH (qv 10 (qS zG) j ⋯ (.inl ⋯))<|zH (DN wt rfl (HV<|zZ<|zNw 9 rfl (gl ⋯) I.sorted<|pv 9) (zS 11 j ⋯ (.inl ⋯) (.inl rfl))<|zH (zg 12 (zJ O ∅ ⋯ rfl (zA (zD 0<|pv 0)<|zA (zD 1<|pv 1)<|zA (z8 yD (gl ⋯) I.tuple qO<|zP8 J 9 (pv 9)<|zD 11<|pv 11) zG)) j ⋯ (.inl ⋯))<|zH (qN (zTJ J 4 (pv 4)<|zD 12<|pv 12) (zH (zTK J 4 (pv 4) (zD 12<|pv 12)<|z6 zo (gl ⋯) I.len vB<|zB 3<|pv 3)<|zO<|qJ 3 (pv 3)<|zD 12<|pv 12) yG)<|zO<|qJ 10 (pv 10)<|zW<|zA (zD 11<|pv 11)<|zA (zTI J 4 (pv 4)<|zD 12<|pv 12) zG)<|zO<|qJ 5 (pv 5)<|zQC (S2 hu (zQ (zB 8<|pv 8)<|zE zF) (zE<|zW<|zA yC<|zA yC zG)<|by rfl) (zW<|zA (zQ (zB 8<|pv 8)<|zE zF)<|zA (zQ (zB 8<|pv 8)<|zE zF)<|zA (z8 yD (gl ⋯) I.tuple qO<|zB 10<|pv 10) zG)<|zD 8<|pv 8)<|xX<|zO<|zm<|z8 yD (gl ⋯) I.tuple qO<|zB 5<|pv 5)
theorem zUf:zU Sf ["self","dance"] (zI Qy):=by right
theorem zW9(I:dW P w K mg base κ 5 "part_of" 2 za)(S:Bl mg)(J:Cl K mg C κ):TX P w K mg base κ 5 Sf "Hall.__init__" Qy (IX C):=by
 intro fa Y A outer s H E hr;obtain⟨hK,IC,GF,lD,ND,BC,CC⟩:=J;show(qy (zQJ 0 hK IC (pv 0) (nm:=["dancer"]) (m:=1) rfl ⋯ ⋯ (yW (gl ⋯) S.range<|zA (zQ (zB 1<|pv 1)<|zE zF) zG) (zd<|show 2<=2 by decide) (λC j z ex=>(zS 2 (zk (nm:=["dancer"]) ⋯) ⋯ (.inl ⋯) (.inr ⋯))) (λC j z ex U O=>(Qj I O ∅ ⋯ rfl (zA (zD 1<|pv 1)<|zA (zD 2<|pv 2) zG))))<|xX<|zH (zKz 0 hK GF (pv 0)<|qI (nm:=["part"]) (m:=1) rfl rfl ⋯ ⋯ (HV<|zVy 0 hK IC<|pv 0) (zd<|show 2<=2 by decide) (λC j z ex=>(zS 2 (zk (nm:=["part"]) ⋯) ⋯ (.inl ⋯) (.inr ⋯))) (λC j z ex=>.inl ⟨rfl,rfl⟩) (λC j z ex=>zF))<|zH (zQD 0 hK lD<|pv 0)<|zO<|zKz 0 hK ND (pv 0)<|qS zG)
theorem xm:zU Ng ["_law_dance_here"] (zI Mh):=by right
theorem zMS{fi:Addr}{z:FuncData}{I:List Str}(U:Mk K C fi)(J:KI P w K mg base (GK P w) 6 fi z I (V6 K κ (JV C) 2))(O:L2.OL K z I [])(S:mg "Hall" = some (.ref C))(Z:Bl mg)(Y:Cl K mg C κ):TD P w K mg base 7 Ng "_law_hall" Mh (R9 C):=by
 intro fa rC A outer s H hr;have j:=xm.nd;obtain⟨hK,IC,GF,lD,ND,BC,CC⟩:=Y;show(zH (zg 1 DX j ⋯ (.inl ⋯))<|zH (zQK 1 0 U J O ∅ (gl ⋯) S rfl (zA (zD 0<|pv 0) zG) rfl BC (gl ⋯) CC rfl rfl (λy=>(zO<|zg 1 DX j ⋯ (.inl ⋯))) j ⋯ (.inl ⋯))<|zO<|zQF 1<|pv 1)
theorem jd:zU Km ["_law_dance_here","_law_other","_law_dancers"] (zI Kl):=by right
theorem zEy(J:dW P w K mg base κ 5 "part_of" 2 za)(S:Bl mg)(U:Cl K mg C κ):TD P w K mg base 5 Km "_law_same_parts" Kl jc:=by
 intro fa Y A outer s H hr;have O:=kM hr;have I:=jd.nd;show(zH (DN PassesOwn.never rfl (yW (gl ⋯) S.range<|zA (zQ (zB 0<|pv 0)<|zE zF) zG) (zS 3 I ⋯ (.inl ⋯) (.inl rfl))<|zH (zg 4 (zK0 J ∅ ⋯ rfl (zA (zD 0<|pv 0)<|zA (zD 3<|pv 3) zG)) I ⋯ (.inl ⋯))<|zH (zg 5 (zK0 J ∅ ⋯ rfl (zA (zD 1<|pv 1)<|zA (zQ (zB 2<|pv 2)<|zB 3<|pv 3) zG)) I ⋯ (.inl ⋯))<|zO<|qN (mV<|zVY (yO (m6 O) (zE<|zZ<|Ak (nm:=["_law_state"]) (m:=1) rfl rfl ⋯ ⋯ (TM<|zD 4<|pv 4) (zd<|show 6<=6 by decide) (λC j z ex=>(zS 6 (zk (nm:=["_law_state"]) ⋯) ⋯ (.inl ⋯) (.inr ⋯))) (λC j z ex=>.inl ⟨rfl,rfl⟩) (λC j z ex=>(zQ (zB 6<|pv 6)<|zE zF))) (zE<|zZ<|Ak (nm:=["_law_state"]) (m:=1) rfl rfl ⋯ ⋯ (TM<|zD 5<|pv 5) (zd<|show 6<=6 by decide) (λC j z ex=>(zS 6 (zk (nm:=["_law_state"]) ⋯) ⋯ (.inl ⋯) (.inr ⋯))) (λC j z ex=>.inl ⟨rfl,rfl⟩) (λC j z ex=>(zQ (zB 6<|pv 6)<|zE zF)))<|zx _)<|zRH<|yO (m6 O) (zE<|zZ<|Ak (nm:=["_law_s"]) (m:=1) rfl rfl ⋯ ⋯ (TM<|zD 4<|pv 4) (zd<|show 6<=6 by decide) (λC j z ex=>(zS 6 (zk (nm:=["_law_s"]) ⋯) ⋯ (.inl ⋯) (.inr ⋯))) (λC j z ex=>.inl ⟨rfl,rfl⟩) (λC j z ex=>(yo (zB 6<|pv 6) (qH zF) qZ))) (zE<|zZ<|Ak (nm:=["_law_s"]) (m:=1) rfl rfl ⋯ ⋯ (TM<|zD 5<|pv 5) (zd<|show 6<=6 by decide) (λC j z ex=>(zS 6 (zk (nm:=["_law_s"]) ⋯) ⋯ (.inl ⋯) (.inr ⋯))) (λC j z ex=>.inl ⟨rfl,rfl⟩) (λC j z ex=>(yo (zB 6<|pv 6) (qH zF) qZ)))<|zx _) (zO<|zm RX) yG)<|zO<|zm RX)
theorem jx:zU Ls ["_law_dance_here","_law_cell_here"] (zI Lo):=by right
theorem zJU(J:zq P w K mg base 1 "_law_mix" 3 zP)(O:Bl mg)(S:Cl K mg C κ):TD P w K mg base 1 Ls "_law_spoilt" Lo x9:=by
 intro fa U A outer s H hr;have I:=kM hr;have j:=jx.nd;show(zH (zRK (zD 0<|pv 0)<|aP rfl<|zu (zS 2 j ⋯ (.inl ⋯) (.inl rfl))<|zu (zS 3 j ⋯ (.inl ⋯) (.inl rfl)) XO)<|zH (zg 4 (zJ J ∅ ⋯ rfl (zA (zD 1<|pv 1)<|zA zF<|zA (z6 zo (gl ⋯) O.len vB<|zB 3<|pv 3) zG)) j ⋯ (.inl ⋯))<|zH (zg 5 (zQ (zB 3<|pv 3)<|zB 4<|pv 4) j ⋯ (.inl ⋯))<|zH (qN (yO (yu I) (zB 5<|pv 5) (zE<|zW<|zA yC zG)<|zx _) (zO<|zg 5 (zW<|zA yC<|zA (zc YO (zB 1<|pv 1)<|zB 2<|pv 2)<|zA (zc YO (zE<|zc zX (zB 1<|pv 1)<|zE zF)<|zB 2<|pv 2)<|zA (zW<|zA (zW<|zA yC<|zA (zJ J ∅ ⋯ rfl (zA (zD 1<|pv 1)<|zA zF<|zA (z6 zo (gl ⋯) O.len vB<|zB 3<|pv 3) zG)) zG) zG) zG) j ⋯ (.inl ⋯)) yG)<|zH (zg 6 (zJ J ∅ ⋯ rfl (zA (zD 1<|pv 1)<|zA zF<|zA zF zG)) j ⋯ (.inl ⋯))<|zH (zRK (zQ (zE<|zQ (zB 5<|pv 5)<|zE zF)<|zE<|r6<|zE zF)<|aP rfl<|zu (zS 7 j ⋯ (.inl ⋯) (.inl rfl))<|zu (zS 8 j ⋯ (.inl ⋯) (.inl rfl)) XO)<|zH (qN (yO (yu I) (zB 6<|pv 6) (zE zF)<|zx _) (zO<|zg 5 (zc zX (zE<|yo (zB 5<|pv 5) qZ<|qH zF)<|zE<|zW<|zA (zc zX (zE<|yo (zE<|zQ (zB 5<|pv 5)<|zE zF) qZ<|qH<|r6<|zE zF)<|zE<|zW<|zA (zW<|zA (zD 7<|pv 7)<|zA (zJ J ∅ ⋯ rfl (zA (zD 1<|pv 1)<|zA zF<|zA (z6 zo (gl ⋯) O.len vB<|zB 3<|pv 3) zG)) zG) zG) zG) j ⋯ (.inl ⋯)) yG)<|zH (qN (yO (yu I) (zB 6<|pv 6) (zE zF)<|zx _) (zO<|zg 5 (zW<|zA yC<|zA (zQ (zB 5<|pv 5)<|zE zF)<|zA (zQ (zB 5<|pv 5)<|zE zF)<|zA (zQ (zB 5<|pv 5)<|zE zF) zG) j ⋯ (.inl ⋯)) yG)<|zH (qN (yO (yu I) (zB 6<|pv 6) (zE zF)<|zx _) (zO<|zg 5 (zc zX (zE<|yo (zB 5<|pv 5) qZ<|qH zF)<|zE<|zW<|zA (zc zX (zE<|yo (zE<|zQ (zB 5<|pv 5)<|zE zF) qZ<|qH<|r6<|zE zF)<|zE<|zW<|zA (zW<|zA (zc zX (zE<|yo (zB 7<|pv 7) qZ<|qH zF)<|zE yC)<|zA (zD 8<|pv 8) zG) zG) zG) j ⋯ (.inl ⋯)) yG)<|zH (qN (yO (yu I) (zB 6<|pv 6) (zE zF)<|zx _) (zO<|zg 5 (zc zX (zE<|yo (zB 5<|pv 5) qZ<|qH zF)<|zE<|zW<|zA (yo (zE<|zQ (zB 5<|pv 5)<|zE zF) (qH<|r6<|zE zF) qZ) zG) j ⋯ (.inl ⋯)) yG)<|zH (qN (yO (yu I) (zB 6<|pv 6) (zE zF)<|zx _) (zO<|zg 5 (zW<|zA yC zG) j ⋯ (.inl ⋯)) yG)<|zO<|zm<|zW<|zA (zD 2<|pv 2)<|zA (zc zX (zE<|zc zX (zE<|yo (zB 3<|pv 3) qZ<|qH<|zD 4<|pv 4)<|zE<|zW<|zA (zD 5<|pv 5) zG)<|zE<|yo (zB 3<|pv 3) (qH<|zc zX (zB 4<|pv 4)<|zE zF) qZ) zG)
theorem jk:zU Kx ["_law_dance_here","_law_dancers","_law_numbers"] (zI Lf):=by right
theorem zIE(O:Bl mg)(U:Cl K mg C κ):TD P w K mg base 0 Kx "_law_renamed" Lf jw:=by
 intro fa Y A outer s H hr;have S:=kM hr;have J:=jk.nd;show(zH (wk 3 (nm:=["_law_place"]) (m:=1) rfl rfl ⋯ ⋯ (TM<|zQ (zB 0<|pv 0)<|zE zF) (zd<|show 7<=7 by decide) (λC j I ex=>(zS 7 (zk (nm:=["_law_place"]) ⋯) ⋯ (.inl ⋯) (.inr ⋯))) (λC j I ex=>.inl ⟨rfl,rfl⟩) (λC j I ex=>DX) J ⋯ (.inl ⋯))<|zH (DN PassesOwn.never rfl (zK4 (gl ⋯) O.enumerate<|zQ (zB 0<|pv 0)<|zE zF) (aP rfl<|zu (zS 4 J ⋯ (.inl ⋯) (.inl rfl))<|zu (zS 5 J ⋯ (.inl ⋯) (.inl rfl)) XO)<|zH (qN (yO (m6 S) (zB 5<|pv 5) (zE<|zW<|zA yC zG)<|zx _) (zH (zg 6 (z8 yD (gl ⋯) O.tuple qO<|zE<|zZ<|qI (nm:=["_law_word_here","_law_after"]) (m:=2) rfl rfl ⋯ ⋯ (TM<|zQ (zB 5<|pv 5)<|zE zF) (Ah<|US (zd<|show 7<=7 by decide)<|US (zd<|show 7<=8 by decide) X9) (λC j I ex=>(aP rfl<|zu (zS 7 (zk (nm:=["_law_word_here","_law_after"]) ⋯) ⋯ (.inl ⋯) (.inr ⋯))<|zu (zS 8 (zk (nm:=["_law_word_here","_law_after"]) ⋯) ⋯ (.inl ⋯) (.inr ⋯)) XO)) (λC j I ex=>.inl ⟨rfl,rfl⟩) (λC j I ex=>(zW<|zA (zD 7<|pv 7)<|zA (zQ (zB 2<|pv 2)<|zB 8<|pv 8) zG))) J ⋯ (.inl ⋯))<|zO<|zg 5 (zW<|zA yC<|zA (zQ (zB 1<|pv 1)<|zE<|zQ (zB 5<|pv 5)<|zE zF)<|zA (zQ (zB 1<|pv 1)<|zE<|zQ (zB 5<|pv 5)<|zE zF)<|zA (zD 6<|pv 6) zG) J ⋯ (.inl ⋯)) yG)<|zO<|zKr 3 (pv 3) (zQ (zB 2<|pv 2)<|zB 4<|pv 4)<|zD 5<|pv 5)<|zO<|zm<|zW<|zA (zQ (zB 0<|pv 0)<|zE zF)<|zA (z8 yD (gl ⋯) O.tuple qO<|zB 3<|pv 3) zG)
theorem zKS:zU Nc ["self","dancer"] (zI Mi):=by right
theorem zMT(z:Bl mg)(j:Cl K mg C κ):TD P w K mg base 0 Nc "Hall.state_of" Mi (Nd C):=by
 intro fa I A outer s H hr;obtain⟨hK,IC,GF,lD,ND,BC,CC⟩:=j;show(zO<|zm<|zQ (zE<|zQ (Rp 0 hK IC<|pv 0)<|zB 1<|pv 1)<|zE<|zQ (Rp 0 hK GF<|pv 0)<|zB 1<|pv 1)
theorem zXA:zU Sy ["self","one","other"] (zI So):=by right
theorem XY(J:Bl mg)(I:Cl K mg C κ):TD P w K mg base 0 Sy "Hall.row" So (Cp C):=by
 intro fa O A outer s H hr;have j:=gS hr;obtain⟨hK,IC,GF,lD,ND,BC,CC⟩:=I;show(zO<|zm<|z8 yD (gl ⋯) J.tuple qO<|zTC 0 j hK lD (pv 0) (zW<|zA (zD 1<|pv 1)<|zA (zD 2<|pv 2) zG) (zW zG) ⟨rfl,rfl,rfl,rfl⟩)
theorem xn:zU Nf ["self","dancer"] (zI Mj):=by right
theorem zMU(O:iP P w K mg base C 1 "state_of" 2 (qC C))(U:iP P w K mg base C 1 "row" 3 (XX C))(Y:Bl mg)(S:Cl K mg C κ):TD P w K mg base 1 Nf "Hall.moves_of" Mj (Q9 C):=by
 intro fa Z A outer s H hr;have I:=kM hr;have J:=xn.nd;obtain⟨hK,IC,GF,lD,ND,BC,CC⟩:=S;show(zH (zg 2 (Bb 0 O hK ∅ (pv 0) (zA (zD 1<|pv 1) zG) rfl) J ⋯ (.inr ⋯))<|zH (qN (yO (yu I) (zE<|zQ (zB 2<|pv 2)<|zE zF) (zE yC)<|zx _) (zO<|Ql<|qI (nm:=["word","number"]) (m:=2) rfl rfl ⋯ ⋯ (TM<|zQ (zB 2<|pv 2)<|zE zF) (Ah<|US (zd<|show 4<=4 by decide)<|US (zd<|show 4<=5 by decide) X9) (λC j z ex=>(aP rfl<|zu (zS 4 (zk (nm:=["word","number"]) ⋯) ⋯ (.inl ⋯) (.inr ⋯))<|zu (zS 5 (zk (nm:=["word","number"]) ⋯) ⋯ (.inl ⋯) (.inr ⋯)) XO)) (λC j z ex=>.inl ⟨rfl,rfl⟩) (λC j z ex=>(zW<|zA yC<|zA (zD 1<|pv 1)<|zA (zQ (zB 2<|pv 2)<|zE zF)<|zA (zD 4<|pv 4) zG))) yG)<|zH (qN (yO (yu I) (zE<|zQ (zB 2<|pv 2)<|zE zF) (zE yC)<|zx _) (zH (zg 3 (yo (zE<|Bb 0 U hK ∅ (pv 0) (zA (zQ (zB 2<|pv 2)<|zE zF)<|zA (zD 1<|pv 1) zG) rfl) qZ<|qH zF) J ⋯ (.inr ⋯))<|zO<|Ql<|qI (nm:=["word","number"]) (m:=2) rfl rfl ⋯ ⋯ (TM<|zQ (zB 2<|pv 2)<|zE zF) (Ah<|US (zd<|show 4<=4 by decide)<|US (zd<|show 4<=5 by decide) X9) (λC j z ex=>(aP rfl<|zu (zS 4 (zk (nm:=["word","number"]) ⋯) ⋯ (.inl ⋯) (.inr ⋯))<|zu (zS 5 (zk (nm:=["word","number"]) ⋯) ⋯ (.inl ⋯) (.inr ⋯)) XO)) (λC j z ex=>.inr ⟨_,rfl,(yO (yu I) (zE<|zW<|zA (zD 4<|pv 4) zG) (zB 3<|pv 3)<|zx _)⟩) (λC j z ex=>(zW<|zA yC<|zA (zQ (zB 2<|pv 2)<|zE zF)<|zA (zD 1<|pv 1)<|zA (zD 4<|pv 4) zG))) yG)<|zO<|Ql<|qS zG)
theorem zLf:zU Qr ["self"] (zI Pz):=by right
theorem zUg(O:Te P w K mg base C 2 "moves_of" 2 (S4 C))(j:Bl mg)(J:Cl K mg C κ):TD P w K mg base 2 Qr "Hall.moves" Pz (Bf C):=by
 intro fa U A outer s H hr;have I:=zLf.nd;obtain⟨hK,IC,GF,lD,ND,BC,CC⟩:=J;show(zH (qv 1 (qS zG) I ⋯ (.inl ⋯))<|zH (DN PassesOwn.never rfl (yW (gl ⋯) j.range<|zA (z6 zo (gl ⋯) j.len vB<|Rp 0 hK IC<|pv 0) zG) (zS 2 I ⋯ (.inl ⋯) (.inl rfl))<|zO<|zIj 1 (pv 1)<|zTU 0 O hK ∅ (pv 0) (zA (zD 2<|pv 2) zG) rfl)<|zO<|zm<|z8 yD (gl ⋯) j.tuple qO<|zB 1<|pv 1)
theorem zKT:zU Mz ["thing"] (zI Ml):=by right
theorem zMV(j:Bl mg)(z:Cl K mg C κ):TD P w K mg base 0 Mz "is_whole" Ml Na:=by
 intro fa I A outer s H hr;show(zO<|zm<|FX (zRV (T:="int") 02 (gl ⋯) j.isinstance (gl ⋯) j.int Cg<|zB 0<|pv 0)<|EX<|zVZ<|zRV (T:="bool") 02 (gl ⋯) j.isinstance (gl ⋯) j.bool zVk<|zB 0<|pv 0)
theorem zGi:zU Ll ["self","move"] (zI Lg):=by right
theorem zIF(j:zq P w K mg base 1 "is_whole" 1 iX)(z:iP P w K mg base C 3 "moves" 1 (tO C))(O:Bl mg)(I:Cl K mg C κ):TD P w K mg base 3 Ll "Hall.can_be_done" Lg (m9 C):=by
 intro fa S A outer s H hr;have J:=kM hr;obtain⟨hK,IC,GF,lD,ND,BC,CC⟩:=I;show(zO<|zm<|FX (zVf J (zD 1<|pv 1) (zE<|Ow 0 z hK ∅ (pv 0))<|by rfl)<|FX (zJ j ∅ ⋯ rfl (zA (zQ (zB 1<|pv 1)<|zE zF) zG))<|EX<|zJ j ∅ ⋯ rfl (zA (zQ (zB 1<|pv 1)<|zE zF) zG))
theorem zQ4:zU Qs ["self","dancer","word"] (zI Qa):=by right
theorem zUh(z:iP P w K mg base C 1 "state_of" 2 (qC C))(J:Bl mg)(I:Cl K mg C κ):TD P w K mg base 1 Qs "Hall.go_on" Qa (O5 C):=by
 intro fa S A outer s H hr;have j:=gS hr;obtain⟨hK,IC,GF,lD,ND,BC,CC⟩:=I;show(zO<|zTB 0 hK GF (pv 0) (zD 1<|pv 1)<|zNn j (gl ⋯) J.dict (zQ (zE<|Bb 0 z hK ∅ (pv 0) (zA (zD 1<|pv 1) zG) rfl)<|zE zF)<|zD 2<|pv 2)
theorem zXB:zU cV ["self","move"] (zI lV):=by right
theorem Eh(J:iP P w K mg base C 4 "can_be_done" 2 (qD C))(j:Z6 P w K mg base C 2 "go_on" 3 (ZS C))(U:Bl mg)(I:Cl K mg C κ):TD P w K mg base 4 cV "Hall.do" lV (i7 C):=by
 intro fa Y A outer s H hr;have S:=kM hr;have z:=gS hr;have O:=zXB.nd;obtain⟨hK,IC,GF,lD,ND,BC,CC⟩:=I;show(zH (qN (Rj<|OV<|zE<|Bb 0 J hK ∅ (pv 0) (zA (zD 1<|pv 1) zG) rfl) (zO zQE) yG)<|zH (zg 2 (zW<|zA (zQ (zB 1<|pv 1)<|zE zF)<|zA (zQ (zB 1<|pv 1)<|zE zF) zG) O ⋯ (.inl ⋯))<|zH (qN (yO (yu S) (zE<|zQ (zB 1<|pv 1)<|zE zF) (zE yC)<|zx _) (zH (zTE 0 z hK lD (pv 0) (zD 2<|pv 2)<|zQ (zB 1<|pv 1)<|zE zF)<|zO<|Bc 0 j hK ∅ (pv 0) (zA (zQ (zB 1<|pv 1)<|zE zF)<|zA (zQ (zB 1<|pv 1)<|zE zF) zG) rfl)<|zH (zTD 0 z hK lD (pv 0)<|zD 2<|pv 2)<|zO<|Bc 0 j hK ∅ (pv 0) (zA (zQ (zB 1<|pv 1)<|zE zF)<|zA (zQ (zB 1<|pv 1)<|zE zF) zG) rfl)<|zO<|zS9 0 hK ND (pv 0)<|zD 1<|pv 1)
theorem zJV:zU Mg ["_law_move","_law_dancers"] (zI Mc):=by right
theorem zKU(z:Bl mg)(j:Cl K mg C κ):TD P w K mg base 0 Mg "_law_moved" Mc xh:=by
 intro fa I A outer s H hr;show(zO<|zm<|zW<|zA (zQ (zB 0<|pv 0)<|zE zF)<|zA (zQ (zB 1<|pv 1)<|zE<|zQ (zB 0<|pv 0)<|zE zF)<|zA (zQ (zB 1<|pv 1)<|zE<|zQ (zB 0<|pv 0)<|zE zF)<|zA (zQ (zB 0<|pv 0)<|zE zF) zG)
theorem zR8:zU Tv ["_law_script"] (zI dS):=by right
theorem WY(CH:zq P w K mg base 4 "_law_dance" 1 q8)(MG:zq P w K mg base 2 "_law_perm" 2 qE)(eJ:zq P w K mg base 2 "renamed" 3 d5)(Y:kW P w K mg base 8 "_law_hall" 1 (yJ C))(QE:zq P w K mg base 6 "_law_same_parts" 3 yl)(NG:zq P w K mg base 2 "_law_spoilt" 2 qW)(S:zq P w K mg base 1 "_law_cell" 2 zb)(cG:zq P w K mg base 1 "_law_renamed" 3 qm)(OG:iP P w K mg base C 3 "moves" 1 (tO C))(lR:Z6 P w K mg base C 5 "do" 2 (pW C))(fB:zq P w K mg base 1 "_law_mix" 3 zP)(VF:zq P w K mg base 1 "_law_moved" 2 qQ)(O:Bl mg)(bD:Cl K mg C κ):TD P w K mg base 8 Tv "law" dS (zWs C):=by
 intro fa rC A outer s H hr;have U:=kM hr;have j:=zR8.nd;obtain⟨hK,IC,GF,lD,ND,BC,CC⟩:=bD;show(zH (zg 1 (zJ CH ∅ ⋯ rfl (zA (zD 0<|pv 0) zG)) j ⋯ (.inl ⋯))<|zH (qN (yO (yu U) (zE<|zc YO (zE<|zJ S ∅ ⋯ rfl (zA (zD 0<|pv 0)<|zA zF zG))<|zE zF) (zE zF)<|zx _) (zO<|zg 1 (zJ NG ∅ ⋯ rfl (zA (zD 1<|pv 1)<|zA (zc zPo (zE<|zJ S ∅ ⋯ rfl (zA (zD 0<|pv 0)<|zA zF zG))<|zE zF) zG)) j ⋯ (.inl ⋯)) yG)<|zH (zg 2 (zJ MG ∅ ⋯ rfl (zA (zJ S ∅ ⋯ rfl (zA (zD 0<|pv 0)<|zA zF zG))<|zA (zQ (zB 1<|pv 1)<|zE zF) zG)) j ⋯ (.inr ⋯))<|zH (zg 3 (zc zX (zE<|zW<|zA zF zG)<|zE<|z8 yD (gl ⋯) O.tuple qO<|zE<|zZ<|qI (nm:=["_law_k"]) (m:=1) rfl rfl ⋯ ⋯ (TM<|zJ MG ∅ ⋯ rfl (zA (zJ S ∅ ⋯ rfl (zA (zD 0<|pv 0)<|zA zF zG))<|zA (zc qw (zE<|z6 zo (gl ⋯) O.len vB<|zE<|zQ (zB 1<|pv 1)<|zE zF)<|zE zF) zG)) (zd<|show 10<=10 by decide) (λC I J ex=>(zS 10 (zk (nm:=["_law_k"]) ⋯) ⋯ (.inl ⋯) (.inr ⋯))) (λC I J ex=>.inl ⟨rfl,rfl⟩) (λC I J ex=>(zc zX (zE zF)<|zB 10<|pv 10))) j ⋯ (.inl ⋯))<|zH (zg 4 (zJ eJ ∅ ⋯ rfl (zA (zD 1<|pv 1)<|zA (zD 2<|pv 2)<|zA (zD 3<|pv 3) zG)) j ⋯ (.inl ⋯))<|zH (qN (yO (m6 U) (zB 4<|pv 4) (zE<|zJ cG ∅ ⋯ rfl (zA (zD 1<|pv 1)<|zA (zD 2<|pv 2)<|zA (zD 3<|pv 3) zG))<|zx _) (zO<|zm RX) yG)<|zH (Bd 5 Y ∅ ⋯ rfl (zA (zD 1<|pv 1) zG) j ⋯ (.inl ⋯))<|zH (Bd 6 Y ∅ ⋯ rfl (zA (zD 4<|pv 4) zG) j ⋯ (.inl ⋯))<|zH (qN (mV<|zVY (zRc 5<|pv 5)<|zRH<|zRc 6<|pv 6) (zO<|zm<|FX (YR (zRP) (zB 5<|pv 5) (zE DX)<|zx _)<|EX<|YR (zRP) (zB 6<|pv 6) (zE DX)<|zx _) yG)<|zH (DN PassesOwn.never rfl (HV<|zZ<|zPp (zB 0<|pv 0) (qH zF)<|qH zF) (zS 7 j ⋯ (.inl ⋯) (.inl rfl))<|zH (zg 8 (Ow 5 OG hK ∅ (pv 5)) j ⋯ (.inl ⋯))<|zH (qN (yO (m6 U) (zE<|zZ<|Ae wx (gl ⋯) O.sorted mX<|zE<|zZ<|qI (nm:=["_law_move"]) (m:=1) rfl rfl ⋯ ⋯ (TM<|zD 8<|pv 8) (zd<|show 10<=10 by decide) (λC I J ex=>(zS 10 (zk (nm:=["_law_move"]) ⋯) ⋯ (.inl ⋯) (.inr ⋯))) (λC I J ex=>.inl ⟨rfl,rfl⟩) (λC I J ex=>(zJ VF ∅ ⋯ rfl (zA (zD 10<|pv 10)<|zA (zD 2<|pv 2) zG)))) (zE<|zZ<|Ae wx (gl ⋯) O.sorted mX<|zE<|Ow 6 OG hK ∅ (pv 6))<|zx _) (zO<|zm RX) yG)<|zO<|qN (OV<|zB 8<|pv 8) (zH (zg 9 (zQ (zB 8<|pv 8)<|zE<|zJ fB ∅ ⋯ rfl (zA (zD 7<|pv 7)<|zA zF<|zA (z6 zo (gl ⋯) O.len vB<|zB 8<|pv 8) zG)) j ⋯ (.inl ⋯))<|zH (Bc 5 lR hK ∅ (pv 5) (zA (zD 9<|pv 9) zG) rfl)<|zO<|Bc 6 lR hK ∅ (pv 6) (zA (zJ VF ∅ ⋯ rfl (zA (zD 9<|pv 9)<|zA (zD 2<|pv 2) zG)) zG) rfl) yG)<|zO<|zm<|zJ QE ∅ ⋯ rfl (zA (zD 1<|pv 1)<|zA (zD 4<|pv 4)<|zA (zD 2<|pv 2) zG))
end
end K11
namespace K11
open PySem PySem.Spec PyProof.Rows L2 RD LG
def Q6(ds:List D):Option D:=by
 classical show if ∃ns:List Int,ds=[.lst<|ns.map D.int]/\ns.length<=63 then some (.bl true) else none
theorem QG.fn{K:Fg}{f:Addr}{x q:Str}{st:Stmt}(h:QG K f x q st):∃fd,nN K x q st f fd:=by
 obtain⟨_,_,_,_,_,_,_,_,_,l,c,k⟩:=h;show⟨_,zRG l c k⟩
theorem YV{us:List Value}(h:us.length=1):∃a,us=[a]:=List.length_eq_one_iff.mp h
theorem Ck{us:List Value}{n:Nat}(h:us.length=n+1):∃a l,us=a::l/\l.length=n:=by
 cases us with
 |nil=>cases h
 |cons a l=>show⟨a,l,rfl,Nat.succ.inj h⟩
theorem NL{us:List Value}(h:us.length=2):∃a b,us=[a,b]:=by
 obtain⟨a,_,rfl,j⟩:=Ck h;obtain⟨b,rfl⟩:=YV j;show⟨a,b,rfl⟩
theorem PQ{us:List Value}(h:us.length=3):∃a b c,us=[a,b,c]:=by
 obtain⟨a,_,rfl,j⟩:=Ck h;obtain⟨b,c,rfl⟩:=NL j;show⟨a,b,c,rfl⟩
theorem Cm{us:List Value}(h:us.length=4):∃a b c d,us=[a,b,c,d]:=by
 obtain⟨a,_,rfl,j⟩:=Ck h;obtain⟨b,c,d,rfl⟩:=PQ j;show⟨a,b,c,d,rfl⟩
theorem L0{us:List Value}(h:us.length=5):∃a b c d e,us=[a,b,c,d,e]:=by
 obtain⟨a,_,rfl,j⟩:=Ck h;obtain⟨b,c,d,e,rfl⟩:=Cm j;show⟨a,b,c,d,e,rfl⟩
theorem mU{l:MJ}{w:World}{K:Fg}{h:Heap}{mg:gF}{fa:Addr}(X:K.In h)(G:h.Ns NC mg)(hfa:mg "law" = some (.ref fa))(hF:zQ7 K)
  : ∃fd:FuncData,(∀(s:Shared)(v:Value),dN s fd ⟨[v],[]⟩ [("_law_script",v)])/\∀base:Heap,K.In base->base.Ns NC mg->KI l.prog w K mg base EI 9 fa fd ["_law_script"] (oV K Q6 1):=by
 refine hF _ @λC np f0 f1 f2 f3 f4 f5 f6 f7 f8 f9 Eu Ew Ex Ey Ez Fb Fc Fe Ff Fi Fj Fk Fm NW Fn Fo Fp Fq dZ eZ fZ gZ Fs hZ iZ jZ Ft j8 Yh Dy Zo Yg Hz Ej Ir d8 Ef aH aN a0 p0 a1 p1 a2 p2 a3 p3 a4 p4 a5 p5 a6 p6 a7 p7 a8 p8 a9 p9 Y7 Yi Z7 Yj c8 Yk Vh Yl Vi Ym Vj Yn Vk Yo Vl Yp Vm Yq Vn Yr Vo Ys Vp Yt Vq Yu Vr Yv k23 Xu Vs Yw Vt Yx Vu Yy Vv Yz Vw Za Xj Xv Vx Zb Xk Xw Vy Zc Xl Xx Vz Zd Xm Xy Wa Ze Wb Zf Xn Xz Wc Zg Xo Ya Wd Zh Xp Yb We Zi Wf Xr Wh Xq RT fO pJ JM gO nQ QT mQ MI NT OT KM lQ q1 q2 q3 q4 q5 q6 q7 UN Q1 VP UP=>?_
 have e:=hfa.symm.trans<|QA X G Wf;cases e;have J:Bl mg:=⟨GB X G RT,GB X G fO,GB X G pJ,GB X G JM,GB X G gO,GB X G nQ,GB X G QT,GB X G mQ,GB X G MI,GB X G NT,GB X G OT,GB X G KM,GB X G lQ⟩
 have GL:mg "Hall" = some (.ref C):=QA X G aH;have I:Cl K mg C (λ_=>np):=⟨⟨q1,q2,q3,q4⟩,UN,Q1,VP,UP,q7,QA X G aN⟩
 obtain⟨_,F0⟩:=p0.fn;have b0:=F0.binds (ps:=["_law_cell_here","_law_prime","_law_many"]) λ_ _ _ _ _ _ us z=>by obtain⟨_,_,_,rfl⟩:=PQ z;rfl
 obtain⟨_,F1⟩:=p1.fn;have b1:=F1.binds (ps:=["_law_script","_law_k"]) λ_ _ _ _ _ _ us z=>by obtain⟨_,_,rfl⟩:=NL z;rfl
 obtain⟨_,F2⟩:=p2.fn;have b2:=F2.binds (ps:=["_law_cell_here","_law_many"]) λ_ _ _ _ _ _ us z=>by obtain⟨_,_,rfl⟩:=NL z;rfl
 obtain⟨_,F3⟩:=p3.fn;have b3:=F3.binds (ps:=["_law_start","_law_goals","_law_one","_law_others","_law_words"]) λ_ _ _ _ _ _ us z=>by obtain⟨_,_,_,_,_,rfl⟩:=L0 z;rfl
 obtain⟨_,F4⟩:=p4.fn;have b4:=F4.binds (ps:=["_law_cell_here","_law_j"]) λ_ _ _ _ _ _ us z=>by obtain⟨_,_,rfl⟩:=NL z;rfl
 obtain⟨_,F5⟩:=p5.fn;have b5:=F5.binds (ps:=["_law_cell_here","_law_start","_law_many","_law_goals"]) λ_ _ _ _ _ _ us z=>by obtain⟨_,_,_,_,rfl⟩:=Cm z;rfl
 obtain⟨_,F6⟩:=p6.fn;have b6:=F6.binds (ps:=["_law_cell_here","_law_many"]) λ_ _ _ _ _ _ us z=>by obtain⟨_,_,rfl⟩:=NL z;rfl
 obtain⟨_,F7⟩:=p7.fn;have b7:=F7.binds (ps:=["_law_cell_here","_law_here","_law_many","_law_goal"]) λ_ _ _ _ _ _ us z=>by obtain⟨_,_,_,_,rfl⟩:=Cm z;rfl
 obtain⟨_,F8⟩:=p8.fn;have b8:=F8.binds (ps:=["_law_script"]) λ_ _ _ _ _ _ us z=>by obtain⟨_,rfl⟩:=YV z;rfl
 obtain⟨_,F9⟩:=p9.fn;have b9:=F9.binds (ps:=["_law_cell_here","_law_many"]) λ_ _ _ _ _ _ us z=>by obtain⟨_,_,rfl⟩:=NL z;rfl
 obtain⟨_,Ug⟩:=Yi.fn;have Eb:=Ug.binds (ps:=["place","dancers","numbers"]) λ_ _ _ _ _ _ us z=>by obtain⟨_,_,_,rfl⟩:=PQ z;rfl
 obtain⟨_,Uh⟩:=Yj.fn;have Ec:=Uh.binds (ps:=["dance","dancers","numbers"]) λ_ _ _ _ _ _ us z=>by obtain⟨_,_,_,rfl⟩:=PQ z;rfl
 obtain⟨_,Ui⟩:=Yk.fn;have Ed:=Ui.binds (ps:=["place","dancer"]) λ_ _ _ _ _ _ us z=>by obtain⟨_,_,rfl⟩:=NL z;rfl
 obtain⟨_,Uj⟩:=Yl.fn;have b13:=Uj.binds (ps:=["place","dancer"]) λ_ _ _ _ _ _ us z=>by obtain⟨_,_,rfl⟩:=NL z;rfl
 obtain⟨_,Uk⟩:=Ym.fn;have b14:=Uk.binds (ps:=["dance","dancer","some"]) λ_ _ _ _ _ _ us z=>by obtain⟨_,_,_,rfl⟩:=PQ z;rfl
 obtain⟨_,Ul⟩:=Yn.fn;have b15:=Ul.binds (ps:=["place"]) λ_ _ _ _ _ _ us z=>by obtain⟨_,rfl⟩:=YV z;rfl
 obtain⟨_,Um⟩:=Yo.fn;have b16:=Um.binds (ps:=["dance","dancer","some"]) λ_ _ _ _ _ _ us z=>by obtain⟨_,_,_,rfl⟩:=PQ z;rfl
 obtain⟨_,U⟩:=Yp.fn;have b17:=U.binds (ps:=["dance","dancer"]) λ_ _ _ _ _ _ us z=>by obtain⟨_,_,rfl⟩:=NL z;rfl
 obtain⟨_,Di⟩:=Yq.fn;have b18:=Di.binds (ps:=["dancer","some","turns","vain"]) λ_ _ _ _ _ _ us z=>by obtain⟨_,_,_,_,rfl⟩:=Cm z;rfl
 obtain⟨_,Uo⟩:=Yr.fn;have b19:=Uo.binds (ps:=["turn","dancer"]) λ_ _ _ _ _ _ us z=>by obtain⟨_,_,rfl⟩:=NL z;rfl
 obtain⟨_,Dj⟩:=Ys.fn;have b20:=Dj.binds (ps:=["turns","dancer"]) λ_ _ _ _ _ _ us z=>by obtain⟨_,_,rfl⟩:=NL z;rfl
 obtain⟨_,Dk⟩:=Yt.fn;have b21:=Dk.binds (ps:=["turns"]) λ_ _ _ _ _ _ us z=>by obtain⟨_,rfl⟩:=YV z;rfl
 obtain⟨_,Dl⟩:=Yu.fn;have b22:=Dl.binds (ps:=["dance","dancer"]) λ_ _ _ _ _ _ us z=>by obtain⟨_,_,rfl⟩:=NL z;rfl
 obtain⟨_,Up⟩:=Yv.fn;have b23:=Up.binds (ps:=["self","dance"]) λ_ _ _ _ _ _ us z=>by obtain⟨_,_,rfl⟩:=NL z;rfl
 obtain⟨_,Dm⟩:=Yw.fn;have b24:=Dm.binds (ps:=["_law_dance_here"]) λ_ _ _ _ _ _ us z=>by obtain⟨_,rfl⟩:=YV z;rfl
 obtain⟨_,Uq⟩:=Yx.fn;have b25:=Uq.binds (ps:=["_law_dance_here","_law_other","_law_dancers"]) λ_ _ _ _ _ _ us z=>by obtain⟨_,_,_,rfl⟩:=PQ z;rfl
 obtain⟨_,Ur⟩:=Yy.fn;have b26:=Ur.binds (ps:=["_law_dance_here","_law_cell_here"]) λ_ _ _ _ _ _ us z=>by obtain⟨_,_,rfl⟩:=NL z;rfl
 obtain⟨_,Us⟩:=Yz.fn;have b27:=Us.binds (ps:=["_law_dance_here","_law_dancers","_law_numbers"]) λ_ _ _ _ _ _ us z=>by obtain⟨_,_,_,rfl⟩:=PQ z;rfl
 obtain⟨_,Ut⟩:=Za.fn;have b28:=Ut.binds (ps:=["self","dancer"]) λ_ _ _ _ _ _ us z=>by obtain⟨_,_,rfl⟩:=NL z;rfl
 obtain⟨_,Uu⟩:=Zb.fn;have b29:=Uu.binds (ps:=["self","one","other"]) λ_ _ _ _ _ _ us z=>by obtain⟨_,_,_,rfl⟩:=PQ z;rfl
 obtain⟨_,Uv⟩:=Zc.fn;have b30:=Uv.binds (ps:=["self","dancer"]) λ_ _ _ _ _ _ us z=>by obtain⟨_,_,rfl⟩:=NL z;rfl
 obtain⟨_,Uw⟩:=Zd.fn;have b31:=Uw.binds (ps:=["self"]) λ_ _ _ _ _ _ us z=>by obtain⟨_,rfl⟩:=YV z;rfl
 obtain⟨_,Ux⟩:=Ze.fn;have b32:=Ux.binds (ps:=["thing"]) λ_ _ _ _ _ _ us z=>by obtain⟨_,rfl⟩:=YV z;rfl
 obtain⟨_,Uy⟩:=Zf.fn;have b33:=Uy.binds (ps:=["self","move"]) λ_ _ _ _ _ _ us z=>by obtain⟨_,_,rfl⟩:=NL z;rfl
 obtain⟨_,Uz⟩:=Zg.fn;have b34:=Uz.binds (ps:=["self","dancer","word"]) λ_ _ _ _ _ _ us z=>by obtain⟨_,_,_,rfl⟩:=PQ z;rfl
 obtain⟨_,Va⟩:=Zh.fn;have b35:=Va.binds (ps:=["self","move"]) λ_ _ _ _ _ _ us z=>by obtain⟨_,_,rfl⟩:=NL z;rfl
 obtain⟨_,Vb⟩:=Zi.fn;have b36:=Vb.binds (ps:=["_law_move","_law_dancers"]) λ_ _ _ _ _ _ us z=>by obtain⟨_,_,rfl⟩:=NL z;rfl
 have F37:=zRG (st:=dS) Xr Wh Xq;refine⟨FD "law" "law" (GV dS) (yF dS) (zI dS) .none Hz Ej Ir Dy d8 Ef,λs v=>.of_eq rfl,λbase _ _=>?_⟩;have O:zq l.prog w K mg base 1 "_law_mix" 3 zP:=yv F0 (QA X G a0) b0 zML (zPF  J I) (λ_ _ _ h=>h);have RC:zq l.prog w K mg base 1 "_law_cell" 2 zb:=yv F1 (QA X G a1) b1 zKP (zMM  J I) (λ_ _ _ h=>h);have ID:zq l.prog w K mg base 1 "_law_is_late" 2 yP:=yv F2 (QA X G a2) b2 zGg (zH9  J I) (λ_ _ _ h=>h);have lF:zq l.prog w K mg base 1 "_law_told_late" 5 yw:=yv F3 (QA X G a3) b3 jm (zGI  J I) (λ_ _ _ h=>h);have sE:zq l.prog w K mg base 2 "_law_word" 2 yI:=yv F4 (QA X G a4) b4 xj (zMN O J I) (λ_ _ _ h=>h);have dG:zq l.prog w K mg base 3 "_law_told_on" 4 qd:=yv F5 (QA X G a5) b5 jh (zIA O ID lF sE J I) (λ_ _ _ h=>h);have jI:zq l.prog w K mg base 2 "_law_size" 2 R4:=yv F6 (QA X G a6) b6 xk (zMO ID O J I) (λ_ _ _ h=>h);have kF:zq l.prog w K mg base 3 "_law_apart_two" 4 yY:=yv F7 (QA X G a7) b7 jn (zGL O sE J I) (λ_ _ _ h=>h);have CH:zq l.prog w K mg base 4 "_law_dance" 1 q8:=yv F8 (QA X G a8) b8 vm (zKQ O RC dG jI kF J I) (λ_ _ _ h=>h);have MG:zq l.prog w K mg base 2 "_law_perm" 2 qE:=yv F9 (QA X G a9) b9 xl (zMP O J I) (λ_ _ _ h=>h);have nF:zq l.prog w K mg base 1 "renamed_place" 3 yb:=yv Ug (QA X G Y7) Eb jp (zGN  J I) (λ_ _ _ h=>h);have eJ:zq l.prog w K mg base 2 "renamed" 3 d5:=yv Uh (QA X G Z7) Ec zHH (zPG nF J I) (λ_ _ _ h=>h);have aE:zq l.prog w K mg base 1 "takes_part" 2 ye:=yv Ui (QA X G c8) Ed zIB (zJS  J I) (λ_ _ _ h=>h);have dJ:zq l.prog w K mg base 2 "is_turn" 2 kX:=yv Uj (QA X G Vh) b13 zMQ (zPH aE J I) (λ_ _ _ h=>h);have JD:zq l.prog w K mg base 3 "turns_among" 3 yR:=yv Uk (QA X G Vi) b14 jj (zIC dJ J I) (λ_ _ _ h=>h);have ZD:zq l.prog w K mg base 1 "choices_of" 1 yd:=yv Ul (QA X G Vj) b15 zID (zJT  J I) (λ_ _ _ h=>h);have HG:zq l.prog w K mg base 2 "apart" 3 qi:=yv Um (QA X G Vk) b16 zLe (zUe aE ZD J I) (λ_ _ _ h=>h);have cJ:kW l.prog w K mg base 4 "in_vain" 2 VS:=⟨_,_,_,Rq U zHI (zPI JD HG J I)<|λ_ _ _ h=>h,QA X G Vl,U.kp,b17⟩
 have eD:Tc l.prog w K mg base (λ_=>np) 1 "refuse_waiting_in_vain" 4 zt:=⟨_,_,_,zTP Di zBN (zBb  J I)<|λa _ _ _ _ h=>NR h a,QA X G Vm,Di.kp,b18⟩
 have IG:zq l.prog w K mg base 1 "asked_at" 2 CV:=yv Uo (QA X G Vn) b19 zKR (zMR  J I) (λ_ _ _ h=>h);have HF:dW l.prog w K mg base (λ_=>np) 2 "asked_at_all" 2 yH:=⟨_,_,_,zRY Dj jt (zGh IG J I)<|λ_ _ _ h=>h,QA X G Vo,Dj.kp,b20⟩
 have mF:kW l.prog w K mg base 2 "nexts_by_word" 1 yx:=⟨_,_,_,Rq Dk jq (zGO ZD J I)<|λ_ _ _ h=>h,QA X G Vp,Dk.kp,b21⟩
 have RE:dW l.prog w K mg base (λ_=>np) 5 "part_of" 2 za:=⟨_,_,_,zRY Dl zHJ (zPJ cJ HG JD eD HF mF J I)<|λ_ _ _ h=>h,QA X G Vq,Dl.kp,b22⟩
 have EL:=zTV (κ:=λ_=>np) (f:=(JV C)) Up zUf (zW9 RE J I) (λa _ _ _ _ h=>NR h a);have Gg:Mk K C NW:=⟨q5,Vr,Xu,q6⟩
 have FL:=b23;have KG:kW l.prog w K mg base 8 "_law_hall" 1 (yJ C):=⟨_,_,_,Rq Dm xm (zMS Gg EL FL GL J I)<|λ_ _ _ h=>h,QA X G Vs,Dm.kp,b24⟩
 have QE:zq l.prog w K mg base 6 "_law_same_parts" 3 yl:=yv Uq (QA X G Vt) b25 jd (zEy RE J I) (λ_ _ _ h=>h);have NG:zq l.prog w K mg base 2 "_law_spoilt" 2 qW:=yv Ur (QA X G Vu) b26 jx (zJU O J I) (λ_ _ _ h=>h);have cG:zq l.prog w K mg base 1 "_law_renamed" 3 qm:=yv Us (QA X G Vv) b27 jk (zIE  J I) (λ_ _ _ h=>h);have UE:iP l.prog w K mg base C 1 "state_of" 2 (qC C):=⟨_,_,_,Bi Ut zKS (zMT  J I)<|λa _ _ _ _ h=>NR h a,⟨Vw,Xv,Xj⟩,b28⟩
 have vP:iP l.prog w K mg base C 1 "row" 3 (XX C):=⟨_,_,_,Bi Uu zXA (XY  J I)<|λa _ _ _ _ h=>NR h a,⟨Vx,Xw,Xk⟩,b29⟩
 have kI:Te l.prog w K mg base C 2 "moves_of" 2 (S4 C):=⟨_,_,_,zTS Uv xn (zMU UE vP J I)<|λa _ _ _ _ h=>NR h a,⟨Vy,Xx,Xl⟩,b30⟩
 have OG:iP l.prog w K mg base C 3 "moves" 1 (tO C):=⟨_,_,_,Bi Uw zLf (zUg kI J I)<|λa _ _ _ _ h=>NR h a,⟨Vz,Xy,Xm⟩,b31⟩
 have JG:zq l.prog w K mg base 1 "is_whole" 1 iX:=yv Ux (QA X G Wa) b32 zKT (zMV  J I) (λ_ _ _ h=>h);have bG:iP l.prog w K mg base C 4 "can_be_done" 2 (qD C):=⟨_,_,_,Bi Uy zGi (zIF JG OG J I)<|λa _ _ _ _ h=>NR h a,⟨Wb,Xz,Xn⟩,b33⟩
 have SJ:Z6 l.prog w K mg base C 2 "go_on" 3 (ZS C):=⟨_,_,_,zRb Uz zQ4 (zUh UE J I)<|λa _ _ _ _ h=>NR h a,⟨Wc,Ya,Xo⟩,b34⟩
 have lR:Z6 l.prog w K mg base C 5 "do" 2 (pW C):=⟨_,_,_,zRb Va zXB (Eh bG SJ J I)<|λa _ _ _ _ h=>NR h a,⟨Wd,Yb,Xp⟩,b35⟩
 have VF:zq l.prog w K mg base 1 "_law_moved" 2 qQ:=yv Vb (QA X G We) b36 zJV (zKU  J I) (λ_ _ _ h=>h)
 show zVe F37 zR8 (WY CH MG eJ KG QE NG RC cG OG lR O VF J I) (λds d _ h=>by
  unfold Q6 at h;split at h
  .rename_i q;obtain⟨ns,rfl,z⟩:=q;cases h;show law_is C ns z
  .cases h)
theorem walk{l:MJ}{q:Program}{j:List Str}{O:(Str->Option Value)->Heap->Prop}{I:World->Heap->Prop}{d:Tz}{K:Params->Fg}(Z:l.most>63)(J:d.params.defaults=[])
  (U:∀(w:World)(h:Heap),I w h->(K w.params).In h)
  (F:∀(w:World)(mg:gF)(fa:Addr)(h:Heap),(K w.params).In h->h.Ns NC mg->mg d.name>.ref fa ->
   ∃fd:FuncData,(∀(s:Shared)(u:Value),dN s fd ⟨[u],[]⟩ [("_law_script",u)])/\∀base:Heap,(K w.params).In base->base.Ns NC mg->KI l.prog w (K w.params) mg base EI 9 fa fd ["_law_script"] (oV (K w.params) Q6 1)) :
  YK q j O I l.row.toRowW d [] (λf vs=>aL f vs):=
 L2.zM7 (n:=63) (k:=9) (x:="_law_script") (CX:=λ_=>EI) (sp:=λw=>oV (K w.params) Q6 1) Z 02 J ⟨rfl,02,02⟩ U F (λw H a ns Y _ S=>by
  refine⟨H,[.lst<|ns.map D.int],.bl true,zh.refl _,HA.cons (cQ.mpr ⟨a,_,rfl,S,HA.ints ns⟩) HA.nil,rfl,?_,λv G' H' _ r=>yc.mp r⟩;unfold Q6;show if_pos ⟨ns,rfl,Y⟩) λ_ _ _ _ _ z=>z
end K11
end
open PySem PySem.W PyProof.Rows
theorem PySem.Challenge.cw_reelhall_k11_whole_other_numbers_holds : PySem.Challenge.rw_reelhall_k11_whole_other_numbers.Holds :=
 K11.GZ λJU hdn hY hF=>K11.walk (l:=GW) rfl JU hY λw mg fa h KX G PU=>K11.mU KX G (hdn ▸ PU)<|hF w
