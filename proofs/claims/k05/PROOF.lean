import PyProof.Rows.All
import Wide.All
import OpenK.AllK
import Wide.FinOn
import Lean
import PyProof.EqAt
import PyProof.EqKinds
import PyProof.TupleCall
import PyProof.NeKinds
import PyProof.Rows.SortStr
import PyProof.Rows.SortWalk
import KE.KDictOf
import PyProof.AttrMissSeq
import KE.KDictSum
import PyProof.ListMulRoad
import PyProof.FactsAll.tuple_2
import OpenK.KRaise
import PyProof.ExcClass3
import PyProof.StationsW
import PyProof.PassesOwn
import PyProof.ExcBaseAll.ValueError
import OpenK.KOwn
import KE.KDictLaws
import PyProof.DictFindH
import PyProof.DictRoadsH
import PyProof.Rows.TupDisplay
import PyProof.DictWalks
import PyProof.Rows.SetFrom
import PyProof.DictIter
import OpenK.KNot
import PyProof.NsDelKeeps
import PyProof.RulesAs
import PyProof.ReprHeadsTuple
import PyProof.FString
import PySem.Challenge.RW_reelhall_k05_halls_by_hand
set_option Elab.async false
set_option linter.all false
set_option maxRecDepth 100000
set_option maxHeartbeats 8000000
local macro_rules|`(def $i:declId $b:bracketedBinder* : $t := $v)=>`(theorem $i:declId $b:bracketedBinder* : $t := $v)
def El{a b c:Prop}(h:a/\b)(f:a->b->c):c:=f h.1 h.2
abbrev L.{u}(a:Type u):=List a
abbrev Op.{u}(a:Type u):=Option a
local macro_rules|`(tactic|let ($a,$b,*):=$e)=>do
 let f(p n:Lean.Term):Lean.MacroM (Lean.Ident×Lean.TSyntax `tactic):=do
  let k<-`(tactic|skip)
  if p.raw.isIdent then if p.raw.getId==`rfl then return (⟨n⟩,<-`(tactic|obtain $(⟨p⟩):ident:=$n)) else return (⟨p⟩,k)
  if p.raw.isOfKind `Lean.Parser.Term.hole then return (⟨n⟩,k)
  return (⟨n⟩,<-`(tactic|let $p:term:=$n))
 let l:=#[a]++b.getElems
 let q<-match l.toList with|[_,x]=>pure x|_::x::r=>`(($x,$(r.toArray),*))|_=>pure a
 let (x,s)<-f a (<-`(x))
 let (y,t)<-f q (<-`(y))
 let u<-if e.raw.isIdent&&!l.any λp=>(p.raw.find? (·==e.raw)).isSome then `(tactic|try clear $(⟨e⟩)) else `(tactic|skip)
 let m<-(Array.range l.size).mapM λi=>do f l[i]! (Lean.mkIdent (<-Lean.Macro.addMacroScope (.num `z i)))
 let w:=m.map (·.1)
 let v:=m.map (·.2)
 `(tactic|first|(refine Exists.elim $e λ$x $y=>?_;$u;$s;$t)|(refine El $e λ$x $y=>?_;$u;$s;$t)|(obtain⟨$[$w:ident],*⟩:=$e;$[$v];*))
local macro_rules|`(#[$xs,*])=>`(⟨$xs,*⟩)
local macro_rules|`($a>$b)=>`($a=some $b)
local macro_rules|`(01)=>`(by omega)
local macro_rules|`(02)=>`(by decide)
local macro_rules|`(‹$x›)=>`(by simpa using $x)
local macro_rules|`(tactic|show $x)=>`(tactic|exact $x)
local macro_rules|`(tactic|dsimp[$[$a:simpLemma],*]$[$l:location]?)=>`(tactic|simp only[$[$a:simpLemma],*]$[$l]?)
open Sum renaming inl->OD,inr->vE
open PySem.Within renaming cons->Gc
open PySem.W.Looks renaming «at»->IB,here->W8
open PySem.W renaming findIn->jB,Looks->UB,subIn->iC,hideAll->wC,clsIn->fD,keepIn->pD,hideAll_none->DD,hideAll_get->ID,looks_subIn->JD,instIn->LD,fnOf->fE,nsIn->gE,instObj->xE,kia_one->AE,emptyDict->OE,methodCall_KW->VE,plainGet->aF,looks_findIn->gF,callWith_K->JF,of_hideAll->KF,hasDictIn->VF,mg_of->ZF,funFrames_hide->vG,isFn->wG,codeIn->fH,lookIn->gH,looks_instIn->iH,typeIn->jH,plainGet_of->AH,excIn->DH,plainOver->kI,OpenLaw->nJ,makesIn->oJ,takerIn->pJ,WalkO->SK,cellsFrom_some->TL,handedIn->pP,nd_load->dQ,nd_pure->eQ
open PySem.Value renaming ref->mB,none->pC,bool->OG,type->lI,str->WQ,isStrOf->XU,isInt->UY,int->Gd
open PySem.Str renaming ofString->iA,length->lE,empty->oF,append->UL
open PySem.Obj renaming mapFields->tD,data_mapFields->YD,isFreed_of_fields->xH,mapSeq->GI,data_mapDictKeys->oP,putSet->VQ,cls_mapFields->PR
open PySem.Heap.UpToSlots renaming of_keeps->OY,refl->PY
open PySem.Heap.SameBut renaming update->lB,refl->Fz
open PySem.Heap.IsSliceOf renaming new->NY
open PySem.Heap.DictOf renaming new->WM
open PySem.Heap renaming get?_push_of_some->jA,get?_push_size->rA,lt_size->CA,get?_update_self->aC,get?_update_other->lC,SameBut->EC,size_push->MD,FlyingW->QG,StaysIn->RG,ExtBut->CH
open PySem.F renaming plainAttrs_list->pB,slot_dict_setdefault->vC,slot_list_append->KC,type_list_append->LC,args_dict_setdefault_3->KD,entry_dict_setdefault->ND,slot_dict_valueiterator_next->UD,slot_dict_keyiterator_next->cE,plainAttrs_dict->HE,typeOf_object_class->CF,args_tuple_add_2->YF,entry_tuple_add->lG,slot_tuple_add->uG,slot_dict_get->KG,slot_list_pop->MG,type_list_pop->NG,type_dict_setdefault->mJ,args_dict_valueiterator_next_1->UJ,entry_dict_valueiterator_next->jK,plain_extend_loop->nK,args_dict_keyiterator_next_1->LK,slot_dict_values->QK,entry_dict_keyiterator_next->pL,args_dict_get_3->tL,plain_list_iadd->uL,slot_list_index->vL,entry_dict_get->SL,slot_set_iter->kM,slot_dict_values_iter->uO,entry_list_pop->lX,slot_dict_iter->mX,slot_list_pop->MY
open PySem.Expr renaming Constant->iI
open PySem.Challenge renaming rw_reelhall_k05_halls_by_hand->sX
open PySem.Calls renaming Constant_str->UF,callWith_builtin->HG,evalArgs_plain->wH,spliced_cons->gI,Name_function_global->JK,call_function_entry->nL,spliced_nil->aQ
open PySem.Builtin.Tuple renaming tupleItemsOf->fI
open PySem.Builtin.Str renaming strSliceIndices->WC
open PySem.Builtin.Slice renaming sliceAdjust->mF,slicePlaces->nF,sliceApplied->M8,slicePartIndex->O8
open PySem.Builtin.Range renaming rangeSize->L8
open PySem.Builtin.List renaming listExtendWith->eI,listSameRef->MI,listTooLong->NI,listLengthHint->Fy
open PySem.Builtin.Frozenset renaming newClass->fT,sizeOf->jT,slot0->kT,updateFrom->mT
open PySem.Builtin.Dict_items renaming ownsTuple->nB
open PySem.Builtin.Dict renaming updateFrom->fJ,pairItems->wJ,showsAll->TJ,addKeywords->Fw,selfAndRest->Fx
open PySem renaming bootBuiltins->oB,behindInMarks->QB,strKind->jC,sysModules->BC,mem_of_lookup->FC,foldedSetIterable->IC,wpAny_passesOwn->iE,Scope->oE,codeAny->pE,wpAny_isNot_plain->rE,wpAny_ite_split->WE,wpAny_Call_Name_kw->bF,swapsWith->dF,call_meetsIn->pF,wpAny_is_plain->uF,attributeBase->RF,wpAny_pyIter_slot->VG,swappedStores->kH,swapsWithSole->lH,call_meets->MH,typeLookup->WJ,GenState->MK,Keyword->OK,call->TK,callerA->UK,concat_meets->WK,wpAny_pyIter_list->YK,isinstance_outer->VL,noFill_tuple_add->WL,seqIndex?->YL,Within->MM,call_isinstance->NM,wpAny_looks_onW->OM,BindsTo->VM,entryFor->TN,entryFor_alias->UN,firstArgMember->VN,isSubtype_stop->WN,wpAny_call->XN,seq_tuple_add->rP,wpAny_isTrue_Compare1->QR,raiseNew->uT,storedH_new->vT,unsupported->xT,wpAny_handleBy_cons->YU,argsOk->uX,builtinsNs->vX,wpAny_Name->wX,Value->SY,release->VY,wpAny_assign_Name->WY,wpAny_pyIter_enum->XY,entryFor_of_tree->X8,wpAny_Dict_empty->Y8,wpAny_Try_except->Z8,DefRec->Up,bindArgs->Uv,entry_at->Uw,recursionLimit->Ux,table->Uz,wpAny_Compare1->Va
open PyProof.Rows renaming AllBare->jG,IntsAre->NK,Constant_none->iP,IsTup->bQ,subscriptTail_builtinR->XQ,Subscript_->tX,StrsAre->TY,entry_list_sort->Ge,JoinedStr_many->Uq,UnaryOp_->Uu,sortedHeap_old->Uy
open Option.some renaming inj->KB,injEq->DF
open Option renaming bind_eq_some_iff->aA,map_eq_some_iff->bA,bind_some->dA,map_some->VA,bind->ME,map->QF,isSome_map->sI,getD_none->RI,getD_some->UI,isNone_iff_eq_none->PK,isSome_some->BO,none->rX
open Nat renaming le_refl->wA,lt_of_lt_of_le->BA,ne_of_lt->GA,le_trans->JA,zero_le->LB,le_of_ble_eq_true->JC,lt_irrefl->RC,le_succ->YC,lt_succ_self->uE,ne_of_gt->ZE,lt_succ_of_lt->oG,succ_le_succ->JG,lt_of_le_of_lt->FI,le_of_lt->iJ,le_succ_of_le->jJ,lt_trans->kJ,zero_add->lJ,add_le_add->RL,add_le_add_right->nP,min_le_right->tT,min_eq_left->WU,ble->U8,le_of_eq->V8,max_le->Ur,mod_lt->Us
open List.cons renaming injEq->nG
open List.Sublist renaming map->Ga,refl->Gb
open List.Perm renaming refl->IG,swap->gJ
open List.Pairwise renaming imp->R8,nil->S8
open List renaming mem_cons_of_mem->cA,mem_cons_self->eA,mem_singleton->gA,map_cons->kA,length_map->lA,replicate->nA,mem_cons->oA,mem_append->pA,length_cons->sA,map_append->uA,getElem?_eq_some_iff->vA,mem_of_getElem?->xA,range->DA,size_toArray->IA,getElem?_set_ne->LA,getElem?_map->MA,getElem?_append_left->NA,length_append->OA,mem_map->QA,mem_append_right->RA,map_map->UA,append_nil->WA,pairwise_cons->YA,getElem?_cons_zero->ZA,mem_filterMap->aB,getElem?_set_self->cB,append_assoc->dB,getElem?_append_right->eB,lookup_cons->kB,nodup_append->rB,nodup_cons->uB,getElem?_eq_getElem->xB,find?_cons->BB,getElem?_replicate->DB,all_eq_true->GB,mem_append_left->HB,cons_append->MB,getElem?_cons_succ->NB,flatMap_cons->OB,forall_mem_cons->PB,mem_range->VB,nil_append->WB,mem_map_of_mem->YB,length_singleton->cC,map_nil->nC,filterMap_cons->rC,filter_eq_self->sC,map_congr_left->uC,getElem_mem->MC,mem_replicate->NC,length_dropLast->UC,lookup->VC,length_eq_zero_iff->aD,mem_filter->cD,forall_mem_nil->eD,mem_flatMap->sD,length_filter_le->AD,foldl_cons->HD,set_cons_zero->WD,length_nil->aE,length_range->dE,mem_iff_getElem->jE,not_mem_nil->nE,drop_eq_getElem_cons->sE,any_cons->GE,any_eq_true->jF,take_length->kF,length->xF,mem_of_find?_eq_some->bG,any_eq_false->kG,filter_cons->AG,getD->BG,length_take->CG,all_map->UG,length_set->cH,lookup_nil->dH,dropLast_sublist->rH,length_replicate->sH,tail->LH,take_succ_cons->RH,sum_cons->jI,set_cons_succ->pI,findIdx?_eq_some_iff_getElem->EI,any_map->OI,sum_nil->QI,drop_length->xJ,ext_getElem->AJ,flatMap_nil->BJ,le_antisymm->CJ,length_drop->DJ,not_lt->VJ,of_mem_zip->kK,nodup_nil->rL,range_one->sL,getLast?_eq_getElem?->QL,flatMap_eq_nil_iff->LM,map_set->XM,range_succ_eq_map->YM,set_set->ZM,take_of_length_le->bN,dropLast_eq_take->QN,getElem?_eq_none->RN,mem_iff_getElem?->SN,getElem?_of_mem->vO,map->xO,mem_of_mem_take->AO,filter_sublist->jP,flatMap_append->kP,map_eq_nil_iff->mP,find?_eq_none->cQ,map_dropLast->TQ,take_sublist->UQ,countP_cons->MR,getElem_inj->NR,nodup_range->OR,forIn_cons->rT,range_zero->sT,drop_zero->TU,foldl_map->UU,take_zero->VU,all_cons->pX
open Int renaming emod_lt_of_pos->RB,emod_nonneg->HC,toNat_natCast->bD,zero_add->lD,eq_ofNat_of_zero_le->PD,ofNat_lt->XD,natCast_one->IF,natCast_nonneg->XF,toNat_one->tG,lt_add_one_of_le->KH,ne_of_gt->ON,ofNat_le->PN,not_lt->SQ,max_eq_right->pT,min_eq_left->RU,natCast_add->SU,toNat_zero->nX,add_assoc->QY,reduceBEq->RY,ediv_one->P8,le_trans->Q8
open Bool renaming false_ne_true->CB,false_eq_true->JB,and_eq_true->XB,beq_eq_decide_eq->fF,not_true->mG,eq_iff_iff->ZG,or_eq_true->bH,or_false->dI,false_and->mL,and_true->jM,and_false->QU,and_self->jX,true_and->kX,true_or->LY
open Array renaming length_toList->vB,getElem?_toList->vD,getElem?_eq_some_iff->IK,getElem?_eq_none->KM,toArray_toList->NN,append_assoc->gP,toList_push->ZP,toList->iX
open PyProof.Rows renaming envOfC->N9,joinParts_cons->bh
open PySem renaming wpAny_bind->Ee,wpAny_pure->F1,Shared->F2,Value->F3,model->F4,wpAny->F5,Program->F6,starEach->F7,Around->F8,World->F9,wpAny_mono->K0,wpAny_call_entry->K1,wpAny_newObj_type->K2,wpAny_holding->K3,mainGlobals->K4,FuncData->K5,cLine->K6,sizeLine_eq->K7,holding->K8,wpAny_setField->K9,keywordEach->N0,compareOp->N1,codeAny_builtin->N2,assignEach->N3,backTo->N4,tupleKind_room_in1->N5,wpAny_truthy_bool->N6,wpAny_dictEntries->N7,binaryOp->N8,wpAny_rule->T3,codeAny_mono->T4,backToKw->T5,NameKind->T6,getMethod->T7,wpAny_setState_of->T8,standAt->T9,rawInt->aa,wpAny_askSetting->ae,wpAny_comprehension_free->af,plainId_quiet->ag,wpAny_execs_nil->ah,wpAny_dictEpoch->ai,wpAny_field->aj,wpAny_typeOf->ao,wpAny_fieldsOf->ar,callWith->au,wpAny_notOrdered_dict->aw,tupleKind->ax,scanBound->ay,pyNext->az,noteFrame->bc,wpAny_attempt->bf,sliceBounds->bg,assign->bj,SetTable->bo,notedBy->bq,getItem->br,fits_of_scanBound->bu,atKey_none_of_get->bw,wpAny_isInstance->bx,wpAny_execs_cons->bz,reprText->cj,atKey->ck,DictEntry->cm,typeOf->cn,isInstance->cq,typeNameOfWhole->cu,wpAny_isOneOf_valiter->cw,wpAny_of_eq->cx,relayAll->cy,codeAny_call_builtin->df,valueAt->dg,PassesOwn->dh,wpAny_setEntries_of->dj,pyIter->dq,Result->dr,compEnvC->du,pickOrder->dv,wpAny_typeNameOfWhole_valiter->dw,wpAny_typeNameOfWhole_keyiter->dz,wpAny_throw->eh,subscripted->et,size_of_entries->ez,letOwnedTupleGo->fc,setItem->fg,wpAny_load->fh,stored->fj,entryOfKey->fq,dictSetDefault->ft,Paired->fu,wpAny_standAt->fx,wpAny_handled->fy,wpAny_pyNext_tuple_item->fz
set_option genSizeOf false
set_option genInjectivity false
local macro_rules|`(tactic|omega)=>`(tactic|first|lia|omega+splitNatSub)
set_option compiler.extract_closed false
set_option bootstrap.genMatcherCode false
noncomputable section
abbrev Fg:=PySem.W.Frag
abbrev AF:=PySem.Str->Op SY
abbrev IE:=L<|PySem.Addr×PySem.Obj
abbrev jD:=SY->PySem.Shared->Prop
namespace L2
open PySem
noncomputable def YX(s:Stmt):Arguments:=match s with
 |.FunctionDef _ a _ _ _ _ _ _ _ _=>a
 |_=>{ posonlyargs:=[],args:=[],vararg:=none,kwonlyargs:=[],kw_defaults:=[],kwarg:=none,defaults:=[] }
noncomputable def yI(s:Stmt):L Stmt:=match s with
 |.FunctionDef _ _ b _ _ _ _ _ _ _=>b
 |_=>[]
noncomputable def zH(s:Stmt):oE:=match s with
 |.FunctionDef _ _ _ _ _ _ sc _ _ _=>sc
 |_=>{ kind:=.function,names:=[],isGenerator:=false,isCoroutine:=false }
end L2
namespace K05
open PySem PySem.Spec PyProof.Rows L2
noncomputable def top(i:Nat):Stmt:=PySem.Challenge.pw_reelhall_k05_halls_by_hand.main.body.getD i<|.Pass #[0,0,0,0]
noncomputable def hm(j:Nat):Stmt:=match top 20 with
 |.ClassDef _ _ _ body _ _ _ _ _ _ _=>body.getD j<|.Pass #[0,0,0,0]
 |s=>s
inductive BY(K:Fg)(f:Addr)(x q:Str)(st:Stmt):Prop
 |mk {oc od kV dc pm an cd ct sl} (l:K.lookup f>#[oc,od,.func<|fE x q (YX st) (yI st) (zH st) .none kV dc pm an cd ct,sl]) (c:fH K cd q=true) (k:pD K (.ref f)=true)
inductive Gs(K:Fg):List (Nat×Str)->Prop
 |nil:Gs K []
 |cons {f i x l} (a:gE K K4 x>(some<|.ref f)) (p:BY K f x x (top i)) (t:Gs K l):Gs K ((i,x)::l)
inductive Ms(K:Fg)(C:Addr):List (Nat×Str×Str)->Prop
 |nil:Ms K C []
 |cons {f i x q l} (a:jB K (.ref C) x>(some<|.ref f)) (n:wG K (.ref f)=true) (p:BY K f x q (hm i)) (t:Ms K C l):Ms K C ((i,x,q)::l)
inductive Zs(K:Fg):List Str->Prop
 |nil:Zs K []
 |cons {x l} (a:gE K K4 x>none) (t:Zs K l):Zs K (x::l)
noncomputable def gs:L (Nat×Str):=(23,"_law_mix")::(22,"_law_cell")::(25,"_law_is_late")::(27,"_law_told_late")::(24,"_law_word")::(28,"_law_told_on")::(26,"_law_size")::(29,"_law_apart_two")::(30,"_law_dance")::(8,"takes_part")::(11,"is_turn")::(12,"turns_among")::(6,"choices_of")::(9,"apart")::(16,"in_vain")::(17,"refuse_waiting_in_vain")::(13,"asked_at")::(14,"asked_at_all")::(15,"nexts_by_word")::(18,"part_of")::(37,"_law_hall")::(38,"_law_moves")::(40,"_law_shows")::(31,"_law_spoilt")::(32,"_law_apart")::(34,"_law_turns")::(33,"_law_kinds")::(35,"_law_state")::(36,"_law_part")::(41,"_law_bad_moves")::(42,"_law_do")::(5,"is_whole")::(39,"_law_refused")::(43,"law")::[]
noncomputable def ms:L (Nat×Str×Str):=[(0,"__init__","Hall.__init__"),(3,"state_of","Hall.state_of"),(10,"is_over","Hall.is_over"),(1,"states","Hall.states"),(9,"done","Hall.done"),(2,"row","Hall.row"),(4,"moves_of","Hall.moves_of"),(5,"moves","Hall.moves"),(6,"can_be_done","Hall.can_be_done"),(8,"go_on","Hall.go_on"),(7,"do","Hall.do")]
noncomputable def zs:L Str:=["len","range","enumerate","sorted","tuple","list","int","dict","isinstance","all","any","str","bool","set","ValueError"]
noncomputable def zRa(K:Fg):Prop:=∀P:Prop,(∀{C np nv re:Addr}(aH:gE K K4 "Hall" = some (some<|.ref C)) (aN:gE K K4 "NoPart" = some (some<|.ref np)) (aV:gE K K4 "NoMove" = some (some<|.ref nv)) (aR:gE K K4 "ReelError" = some (some<|.ref re))
  (g:Gs K gs) (m:Ms K C ms) (z:Zs K zs)
  (q1:aF K C oF=true)
  (q2:VF K C=true)
  (q3:kI K C=true)
  (q4:jB K (.ref C) "__setattr__" = some (some<|.builtin "object.__setattr__"))
  (q5:oJ K C=true)
  (q6:pD K (.ref C)=true)
  (q7:DH K np [.type "ValueError",.type "Exception",.type "BaseException",.type "object"] "ValueError.__new__" = true)
  (fO:jB K (.ref C) "parts" = some none)
  (Y2:jB K (.ref C) "at" = some none)
  (BQ:jB K (.ref C) "rows" = some none)
  (AQ:jB K (.ref C) "past" = some none)
  (q8:DH K nv [.type "ValueError",.type "Exception",.type "BaseException",.type "object"] "ValueError.__new__" = true)
  (x1:jB K (.ref nv) "__getattribute__" = some (some<|.builtin "BaseException.__getattribute__"))
  (x2:jB K (.ref nv) "__getattr__" = some none)
  (x3:jB K (.ref nv) "__class__" = some (some<|.builtin "object.__class__"))
  (x4:iC K (.ref nv) (.type "BaseException")>true)
  (x5:iC K (.ref nv) (.type "object")>true)
  (x6:iC K (.ref nv) (.ref re)>true)
  (x7:iC K (.ref re) (.type "BaseException")>true)
  (x8:LD K (.ref re) (.type "tuple")>false)
  (x9:iC K (.ref nv) (.type "ValueError")>true)
  (y0:iC K (.ref nv) (.ref np)>false)
  (y1:(nv==np)=false)
  (y2:(fD K np).isSome=true)
  (y3:jH K (.ref np)>.type "type")
  (y4:LD K (.ref np) (.type "type")>true)
  (y5:(fD K re).isSome=true)
  (y6:(fD K nv).isSome=true)
  (y7:LD K (.ref nv) (.type "type")>true),P)->P
open PySem.W
local macro_rules | `(tactic| refine $h:ident $a1 $a2 $a3 $a4 $a5 $a6 $a7 $a8 ?$z:ident $r*) => do let r := r.pop.push (← `($(Lean.mkIdent `wkT) rfl rfl (fun _ _ Y => kIn_of Y) ?hf)); `(tactic| refine' $h $a1 $a2 $a3 $a4 $a5 $a6 $a7 $a8 ?hx $r*)
set_option maxHeartbeats 0 in
def WZ (wkT:∀{q:F6}{loose:L Str}{XP:(Str->Op F3)->Heap->Prop}{YP:F9->Heap->Prop}{d:Up}{K:Params->Fg},d.params.defaults=[]->d.name = "law"->(∀(w:F9)(h:Heap),YP w h->(K w.params).In h)->(∀w:F9,zRa<|K w.params) ->
  SK q loose XP YP PySem.Challenge.rw_reelhall_k05_halls_by_hand.row.toRowW d [] (λf vs=>TK f vs)):PySem.Challenge.rw_reelhall_k05_halls_by_hand.Holds:=by
 w_on
 refine holds_law ?_ λjbe=>?_
 .iterate 18 refine look_both ?_ (by decide +kernel)
  iterate 14 refine look_both ?_ (by decide +kernel)
  decide +kernel
 k_head
 .intro w;kernel_rfl
 (case hw=>w_witness2)
 k_fill
 intro w P k
 refine' k ?_ ?_ ?_ ?_ ?_ ?_ ?_ ?_ ?_ ?_ ?_ ?_ ?_ ?_ ?_ ?_ ?_ ?_ ?_ ?_ ?_ ?_ ?_ ?_ ?_ ?_ ?_ ?_ ?_ ?_ ?_ ?_ ?_ ?_ ?_ ?_
 all_goals try first|k_is|kernel_rfl|(repeat' first|show .nil|refine .cons (by k_is) (.mk (by k_is) (by k_is)<|by k_is) ?_|refine .cons (by k_is) (by k_is) (.mk (by k_is) (by k_is)<|by k_is) ?_|refine .cons (by k_is) ?_)
end K05
namespace L2
open PySem PySem.Spec PyProof.Rows
abbrev kC:=Sum Int Str
noncomputable def OW:kC->F3->Bool
 |.inl k,v=>UY k v
 |.inr x,v=>XU x v
noncomputable def Js(w:F9):kC->Int
 |.inl k=>hashInt k
 |.inr x=>hashStr w x
theorem zq:∀{k:kC}{v:F3},OW k v=true->(∃i t,k=OD i/\v=Gd i t)\/(∃x t,k=vE x/\v=WQ x t)
 |.inl i,v,h=>by
  let(t,e):=Value.isInt_shape h
  show .inl #[i,t,rfl,e]
 |.inr x,v,h=>by
  let(t,e):=Value.isStrOf_shape h;show .inr #[x,t,rfl,e]
def zL2(i:Int)(t:Tok):OW (.inl i) (.int i t)=true:=by simp[OW,UY]
def zL3(x:Str)(t:Tok):OW (.inr x) (.str x t)=true:=by simp[OW,XU]
def zVx(a b:Int):decide ((OD a:kC)=OD b)=(a==b):=by
 by_cases e:a=b
 .subst e;simp
 simp_all
def zVy(a b:Str):decide ((vE a:kC)=vE b)=decide (a=b):=by simp_all
def zVz(a:Int)(b:Str):decide ((OD a:kC)=vE b)=false:=decide_eq_false (λq=>nomatch q)
def zV0(a:Str)(b:Int):decide ((vE a:kC)=OD b)=false:=decide_eq_false (λq=>nomatch q)
def zY(prog:F6)(w:F9):PySem.KeyKind prog w kC where
 is:=OW
 hash:=Js w
 inj:=λv a b ha hb=>by
  rcases zq ha with⟨i,t,rfl,rfl⟩|⟨x,t,rfl,rfl⟩
  .rcases zq hb with⟨j,u,rfl,e⟩|⟨y,u,rfl,e⟩
   .injection e with e1 _;rw[e1]
   .show nomatch e
  .rcases zq hb with⟨j,u,rfl,e⟩|⟨y,u,rfl,e⟩
   .show nomatch e
   .injection e with e1 _;rw[e1]
 byValue:=λk v h=>by
  rcases zq h with⟨i,t,rfl,rfl⟩|⟨x,t,rfl,rfl⟩<;>rfl
 pyHash:=λhv h=>by
  rcases zq hv with⟨i,t,rfl,rfl⟩|⟨x,t,rfl,rfl⟩
  .show wpAny_pyHash_int h
  .show wpAny_pyHash_str h
 eqBool:=λhu hv h=>by
  rcases zq hu with⟨i,t,rfl,rfl⟩|⟨x,t,rfl,rfl⟩
  .rcases zq hv with⟨j,u,rfl,rfl⟩|⟨y,u,rfl,rfl⟩
   .rw[zVx]at h;show wpAny_eqBool_int h
   .rw[zVz]at h;show SeqAt.EqAt.int_str i t y u _ _ _ _ h
  .rcases zq hv with⟨j,u,rfl,rfl⟩|⟨y,u,rfl,rfl⟩
   .rw[zV0]at h;show SeqAt.EqAt.str_int x t j u _ _ _ _ h
   .rw[zVy]at h;show wpAny_eqBool_str h
 «strs»:=λk x t v h=>by
  rcases zq h with⟨i,u,rfl,e⟩|⟨y,u,rfl,e⟩
  .show nomatch e
  .injection e with e1 _;subst e1;cases v<;>rfl
def zIk(prog:F6)(w:F9)(i:Int)(t:Tok):(zY prog w).is (.inl i) (.int i t)=true:=zL2 i t
def zIl(prog:F6)(w:F9)(x:Str)(t:Tok):(zY prog w).is (.inr x) (.str x t)=true:=zL3 x t
end L2
namespace L2
open PySem PySem.Spec PyProof.Rows
set_option genInjectivity true in
inductive V where
 |non|bl (b:Bool)|int (i:Int)|str (x:Str)|byt (b:Array UInt8)|flt (b:UInt64)|ref (a:Addr)|ty (n:String)
 deriving DecidableEq
def z9:V->F3->Prop
 |.non,u=>u=pC
 |.bl b,u=>u=OG b
 |.int i,u=>∃t,u=Gd i t
 |.str x,u=>∃t,u=WQ x t
 |.byt b,u=>∃t,u=Value.bytes b t
 |.flt b,u=>∃t,u=Value.float b t
 |.ref a,u=>u=mB a
 |.ty n,u=>u=lI n
abbrev zl:L V->L F3->Prop:=fu z9
def zl.length{xs:L V}{us:L F3}(r:zl xs us):xs.length=us.length:=Paired.length r
theorem zl.get:∀{xs:L V}{us:L F3}{i:Nat}{x:V},zl xs us->xs[i]?>x->∃u,us[i]?>u/\z9 x u
 |_,_,_,_,.nil,e=>by simp at e
 |_,_,0,_,.cons r _,e=>by simp at e;subst e;show#[_,rfl,r]
 |_,_,i+1,x,.cons _ t,e=>by
  let(u,h1,h2):=zl.get t (by assumption);show#[u,by assumption,h2]
theorem zl.set(r:z9 x u):∀{xs:L V}{us:L F3}(i:Nat),zl xs us->zl (xs.set i x) (us.set i u)
 |_,_,_,.nil=>.nil
 |_,_,0,.cons _ t=>.cons r t
 |_,_,i+1,.cons q t=>.cons q<|zl.set r i t
def zl.append{xs ys:L V}{us ws:L F3}(h:zl xs us)(s:zl ys ws):zl (xs++ys) (us++ws):=by
 induction h with
 |nil=>show s
 |cons r t ih=>show .cons r ih
theorem zl.take:∀{xs:L V}{us:L F3}(n:Nat),zl xs us->zl (xs.take n) (us.take n)
 |_,_,0,_=>.nil
 |_,_,_+1,.nil=>.nil
 |_,_,n+1,.cons r t=>.cons r<|zl.take n t
theorem zl.drop:∀{xs:L V}{us:L F3}(n:Nat),zl xs us->zl (xs.drop n) (us.drop n)
 |_,_,0,r=>r
 |_,_,_+1,.nil=>.nil
 |_,_,n+1,.cons _ t=>zl.drop n t
def DK:Op V->Op F3->Prop
 |some v,some u=>z9 v u
 |none,none=>True
 |_,_=>False
def KV{κ:Type}:=(fu λ(p:κ×V) (q:κ×F3)=>p.1=q.1/\z9 p.2 q.2:L (κ×V)->L (κ×F3)->Prop)
noncomputable def kV:kC->V
 |.inl i=>.int i
 |.inr x=>.str x
set_option genInjectivity true in
inductive HO where
  |lst (xs:List V)
  |tup (xs:List V)
  |dK (kvs:List (kC×V))|dT (kvs:List (List kC×V))
  |set (S:Int->Bool) (n:Nat)
  |ins (C dx:Addr) (fs:List (Str×V))
  |own (x:Addr)
  |xd (fs:List (Str×V))
  |met (f x:Addr)
  |rng (lo hi:Int)
  |frz (o:Obj) (u:HO)
  |tbl (ps:Array F3)
  |ext (φ:Heap->Prop)
def QO(h:Heap)(a:Addr)(items:Array F3):=(∃o,h.get? a>o/\o.cls=.type "tuple"/\∃n,o.data=.seq items n/\o.dict=none:Prop)
def QO.tup(x:QO h a items):bQ h a items:=let ⟨o,e,c,n,d,_⟩:=x;#[o,e,c,n,d]
def QO.lt{h:Heap}(x:QO h a items):a<h.objs.size:=x.tup.lt
def QO.new(h:Heap)(items:Array F3):QO (h.push { cls:=.type "tuple",data:=.seq items }) h.objs.size items:=#[_,rA _ rfl,rfl,_,rfl,rfl]
abbrev Hp:=Addr->Op HO
noncomputable def upd(H:Hp)(a:Addr)(o:HO):Hp:=λb=>if b=a then some o else H b
def HA{H:Hp}{a:Addr}{o:HO}:upd H a o a>o:=by unfold upd;simp_all
def zD{H:Hp}{a b:Addr}{o:HO}(h:b≠a):upd H a o b=H b:=by unfold upd;rw[if_neg h]
def Te{H:Hp}{a b:Addr}{o u:HO}(h:H a>o)(h':H b>u)(d:o≠u):a≠b:=by
 intro e;subst e;rw[h]at h';show d<|KB h'
def yH{H:Hp}{a b:Addr}{o:HO}(h:H a>o)(h':H b=none):a≠b:=by
 intro e;simp_all
section
variable (P:F6)(w:F9)
def qA(H:Hp)(h:Heap)(a:Addr):HO->Prop
 |.lst xs=>xs.length<=sizeLine/\∃(its:L F3)(n:Nat),zl xs its/\h.get? a>{ cls:=.type "list",data:=.seq its.toArray n }
 |.tup xs=>xs.length<=sizeLine/\∃its:L F3,zl xs its/\QO h a its.toArray
 |.dK kvs=>kvs.length<=sizeLine/\(a==BC)=false/\∃vs,KV kvs vs/\h.DictOf (zY P w) a vs
 |.dT kvs=>kvs.length<=sizeLine/\(a==BC)=false/\∃xs:L (L kC×Addr×F3),
   fu (λ(p:L kC×V) (q:L kC×Addr×F3)=>p.1=q.1/\H q.2.1>(.tup<|p.1.map kV)/\z9 p.2 q.2.2) kvs xs /\
   ∃o es ep,h.get? a>o/\o.ExactDict/\o.data=.dict es ep/\es.toList=xs.map (fq<|ax<|zY P w)/\(xs.map (·.1)).Nodup
 |.set S n=>h.SetOf (intKind P w) a S n
 |.ins C dx fs=>H dx>.own a/\fs.length<=1000/\dx≠a/\h.get? a>xE C dx /\
   ∃mA,h.Ns1 dx mA/\(∀f,DK (fs.lookup f)<|mA f)/\MM mA (fs.map (·.1))
 |.own _=>∃o,h.get? a>o
 |.xd fs=>∃mA,h.Ns1 a mA/\∀f,DK (fs.lookup f)<|mA f
 |.rng lo hi=>∃t u v,h.get? a>{ cls:=.type "range",data:=.fields (List.toArray [.int lo t,.int hi u,.int 1 v]) }
 |.frz o u=>h.get? a>o/\qA H h a u
 |.tbl ps=>h.get? a>{ cls:=.none,data:=.fields ps }
 |.met f x=>h.get? a>(PySem.W.methodObj (.ref f)<|.ref x)
 |.ext φ=>φ h/\(∃o,h.get? a>o)/\∀h1 h2:Heap,φ h1->(∀o,h1.get? a>o->h2.get? a>o)->φ h2
def HOk(H:Hp)(h:Heap):=(∀a o,H a>o->qA P w H h a o:Prop)
end
section
variable {P:F6}{w:F9}{H H':Hp}{h h':Heap}{a:Addr}{o:HO}
def qA.lt(x:qA P w H h a o):a<h.objs.size:=by
 cases o with
 |lst xs=>let(_,_,_,_,e):=x;show CA e
 |tup xs=>let(_,_,_,p):=x;show p.lt
 |dK kvs=>let(_,_,_,_,o,_,_,e,_):=x;show CA e
 |dT kvs=>let(_,_,_,_,o,_,_,e,_):=x;show CA e
 |set S n=>let(o,_,_,_,e,_):=x;show CA e
 |ins C dx fs=>let(_,_,_,e,_):=x;show CA e
 |own y=>let(_,e):=x;show CA e
 |xd fs=>let(_,(_,_,_,e,_),_):=x;show CA e
 |rng lo hi=>let(_,_,_,e):=x;show CA e
 |frz ob u=>let(e,_):=x;show CA e
 |tbl ps=>show CA<|x
 |met f y=>show CA<|x
 |ext z=>let(_,(_,e),_):=x;show CA e
def Paired.mapP{z J:Type}{F G:z->J->Prop}{l₁:L z}{l₂:L J}(h:fu F l₁ l₂)(f:∀a b,F a b->G a b):fu G l₁ l₂:=by
 induction h with
 |nil=>show .nil
 |cons r t ih=>show .cons (f _ _ r) ih
def qA.stay(x:qA P w H h a o)(k:∀b u,(b=a\/H b>.own a)->h.get? b>u->h'.get? b>u)
  (O:∀b,H b>.own a->H' b>.own a) (U:∀b xs,H b>.tup xs->H' b>.tup xs):qA P w H' h' a o:=by
 induction o with
 |lst xs=>let(z,its,n,r,e):=x;show#[z,its,n,r,k _ _ (.inl rfl) e]
 |tup xs=>let(z,its,r,ob,e,c):=x;show#[z,its,r,ob,k _ _ (.inl rfl) e,c]
 |dK kvs=>let(z,y,vs,r,ob,es,ep,e,c):=x;show#[z,y,vs,r,ob,es,ep,k _ _ (.inl rfl) e,c]
 |dT kvs=>
  let(z,y,xs,r,ob,es,ep,e,c):=x
  show#[z,y,xs,Paired.mapP r λp q z=>#[z.1,U _ _ z.2.1,z.2.2],ob,es,ep,k _ _ (.inl rfl) e,c]
 |set S n=>let(ob,es,ep,t,e,c):=x;show#[ob,es,ep,t,k _ _ (.inl rfl) e,c]
 |ins C dx fs=>
  let(d,z,ne,e,mA,(od,es,ep,J,c),r):=x
  show#[O _ d,z,ne,k _ _ (.inl rfl) e,mA,#[od,es,ep,k _ _ (.inr d) J,c],r]
 |own y=>let(ob,e):=x;show#[ob,k _ _ (.inl rfl) e]
 |xd fs=>let(mA,(od,es,ep,e,c),r):=x;show#[mA,#[od,es,ep,k _ _ (.inl rfl) e,c],r]
 |rng lo hi=>let(t,u,v,e):=x;show#[t,u,v,k _ _ (.inl rfl) e]
 |frz ob u ih=>let(e,q):=x;show#[k _ _ (.inl rfl) e,ih q]
 |tbl ps=>
  have e:=x
  show k a _ (.inl rfl) e
 |met f y=>
  have e:=x
  show k a _ (.inl rfl) e
 |ext Y=>let(p,(o,e),st):=x;show#[st _ _ p λo q=>k _ _ (.inl rfl) q,#[o,k _ _ (.inl rfl) e],st]
def HOk.lt(x:HOk P w H h)(e:H a>o):a<h.objs.size:=(x a o e).lt
def HOk.fresh(x:HOk P w H h)(e:h.objs.size<=a):H a=none:=by
 cases q:H a with
 |none=>rfl
 |some u=>show absurd (BA (x.lt q) e)<|RC _
def HOk.kept(x:HOk P w H h)(k:∀b u,h.get? b>u->h'.get? b>u):HOk P w H h':=λa o e=>
 (x a o e).stay (λb u _ q=>k b u q) (λ_ q=>q) λ_ _ q=>q
def HOk.laid(x:HOk P w H h)(k:∀b u,h.get? b>u->h'.get? b>u)(hp:h.objs.size<=a)(new:qA P w (upd H a o) h' a o):HOk P w (upd H a o) h':=λb u e=>by
 have hn:=x.fresh hp;by_cases hb:b=a
 .subst hb;rw[HA]at e;simp_all
 .rw[zD hb]at e;show(x b u e).stay (λc v _ q=>k c v q) (λc q=>by rw[zD<|yH q hn];show q) λc xs q=>by rw[zD<|yH q hn];show q
end
def Rd(H:Hp)(a:Addr)(u:HO):=(H a>u\/∃o,H a>.frz o u:Prop)
def Rd.ok(r:Rd H a u)(x:HOk P w H h):qA P w H h a u:=by
 rcases r with r|⟨o,r⟩
 .show x a u r
 .let(_,q):=x a _ r;show q
def fZ:Op HO->Prop
 |some (.lst _)=>True
 |some (.dK _)=>True
 |some (.dT _)=>True
 |some (.set _ _)=>True
 |some (.ins _ _ _)=>True
 |some (.ext _)=>True
 |_=>False
section
variable {P:F6}{w:F9}{H:Hp}{h h':Heap}{x e:Addr}{o':HO}
def HOk.write(ok:HOk P w H h)(J:fZ (H x))(he:e=x\/H e>.own x)(k:∀b u,b≠e->h.get? b>u->h'.get? b>u)(U:∃u,h'.get? e>u)
  (new:qA P w (upd H x o') h' x o'):HOk P w (upd H x o') h':=λb u q=>by
 have Jz:∀c y,H c>.own y->c≠x:=λc y r z=>by subst z;rw[r]at J;show J
 have Kb:∀c xs,H c>.tup xs->c≠x:=λc xs r z=>by subst z;rw[r]at J;show J
 by_cases hb:b=x
 .subst hb;rw[HA]at q;simp_all
 .rw[zD hb]at q;by_cases O:b=e
  .have q':H b>.own x:=by
    rcases he with z|z
    .show absurd (O.trans z) hb
    .rw[O];show z
   rw[q]at q';cases q';let(v,hv):=U;show#[v,by rw[O];show hv]
  .refine(ok b u q).stay (λc v hc r=>k c v ?_ r) (λc r=>by rw[zD<|Jz c b r];show r) λc xs r=>by rw[zD<|Kb c xs r];show r
   grind
end
structure Un(fs ex:List Addr)(H H':Hp)(h h':Heap):Prop where
 keep:∀b o,h.get? b>o->H b=none->b∉fs->b∉ex->h'.get? b>o
 slot:∀b o,h.get? b>o->H b=none->b∈fs->b∉ex->∃sl,h'.get? b>{ o with slots:=sl }
 free:∀b o,h.get? b>o->H b=none->b∉ex->H' b=none
 there:∀b o,h.get? b>o->b∉ex->∃o',h'.get? b>o'
 tups:∀b xs,H b>.tup xs->H' b>.tup xs
 frzs:∀b o u,H b>.frz o u->H' b>.frz o u
 tbls:∀b ps,H b>.tbl ps->∃more,H' b>(.tbl<|ps++more)
section
variable {fs fs' ex ex':L Addr}{H H1 H2:Hp}{h h1 h2 h':Heap}{a x e:Addr}{o:HO}
def Un.any(u:Un fs ex H H1 h h1){b:Addr}{ob:Obj}(q:h.get? b>ob)(n:H b=none)(hx:b∉ex):∃z,h1.get? b>{ ob with slots:=z }:=by
 by_cases hb:b∈fs
 .show u.slot b ob q n hb hx
 .show#[ob.slots,u.keep b ob q n hb hx]
def Un.kept(k:∀b u,h.get? b>u->h'.get? b>u):Un fs ex H H h h':=
 #[λb ob q _ _ _=>k b ob q,λb ob q _ _ _=>#[ob.slots,k b ob q],λ_ _ _ n _=>n,λb ob q _=>#[ob,k b ob q],λ_ _ q=>q,λ_ _ _ q=>q,λ_ ps q=>#[[].toArray,by simp_all]]
def Un.refl:Un fs ex H H h h:=Un.kept λ_ _ q=>q
theorem Un.laid(k:∀b u,h.get? b>u->h'.get? b>u)(hp:h.objs.size<=a)(hn:H a=none):Un fs ex H (upd H a o) h h' where
 keep:=λb u q _ _ _=>k b u q
 slot:=λb u q _ _ _=>#[u.slots,k b u q]
 free:=λb u q n _=>by rw[zD<|GA<|BA (CA q) hp];show n
 there:=λb u q _=>#[u,k b u q]
 tups:=λb xs q=>by rw[zD<|yH q hn];show q
 frzs:=λb u xs q=>by rw[zD<|yH q hn];show q
 tbls:=λb ps q=>#[[].toArray,by rw[zD<|yH q hn,q];simp]
def Un.write(J:fZ (H x))(he:e=x\/H e>.own x)(k:∀b u,b≠e->h.get? b>u->h'.get? b>u)(U:∃u,h'.get? e>u):Un fs ex H (upd H x o) h h':=by
 have hx:∀b,H b=none->b≠x:=λb n z=>by subst z;rw[n]at J;show J
 have hb:∀b,H b=none->b≠e:=λb n z=>by simp_all
 have hm:∀b u,H b>u->¬ fZ (some u)->b≠x:=λb u q nm z=>by simp_all
 refine#[λb u q n _ _=>k b u (hb b n) q,λb u q n _ _=>#[u.slots,k b u (hb b n) q],λb u q n _=>by rw[zD<|hx b n];show n,λb u q _=>?_,
  λb xs q=>by rw[zD<|hm b _ q λz=>z];show q,λb u xs q=>by rw[zD<|hm b _ q λz=>z];show q,λb ps q=>#[[].toArray,by rw[zD<|hm b _ q λz=>z,q];simp]]
 by_cases O:b=e
 .simp_all
 .show#[u,k b u O q]
end
noncomputable def Q5(h:Heap)(H:Hp):L Addr:=(DA h.objs.size).filter λa=>(H a).isSome
def WW(h:Heap)(H:Hp):=(wC h<|Q5 h H:Heap)
def zL4(h:Heap)(H:Hp):(WW h H).objs.size=h.objs.size:=PySem.W.hideAll_size _ _
def zPB{h:Heap}(e:h.get? b>o)(n:H b=none):(WW h H).get? b>o:=
 ID _ e λhm=>by
  have q:=(cD.mp hm).2;rw[n]at q;simp at q
def zSV{h:Heap}(e:(WW h H).get? b>o):h.get? b>o/\H b=none:=by
 have e':=KF _ e;refine#[e',?_]
 cases q:H b with
 |none=>rfl
 |some x=>
  have hm:b∈Q5 h H:=cD.mpr #[VB.mpr<|CA e',by simp[q]];have z:(WW h H).get? b=none:=DD _ hm
  simp_all
noncomputable def zSW(g h:Heap)(Lv:Addr):IE:=(DA h.objs.size).filterMap λa=>if a=Lv\/(g.get? a).isSome=true then none else (h.get? a).map λo=>(a,o)
def rest(g h:Heap)(Lv d:Addr):=((zSW g h Lv).filter λp=>decide<|p.1≠d:IE)
end L2
namespace L2
open PySem PySem.Spec PyProof.Rows
structure Mod(K:Fg)(mg:AF)(base:Heap):Prop where
 kin:K.In base
 glob:base.Ns K4 mg
 blt:∃mb,base.Ns vX mb/\∀x:Str,x ≠ "__name__"->mb x=oB x
 nolimit:base.NoLimit
structure Cx where
 prog:F6
 w:F9
 K:Fg
 mg:AF
 base:Heap
 A:F8
 N:List Str
 s₀:F2
 H₀:Hp
 env:Env
 outer:List Env
 stack:List Env
 ex:List Addr
 fn:Str->Bool
 calm:Bool
 pn:IE
 xe:jD
noncomputable def oH(l:L Env):L Addr:=l.filterMap (·.frame)
abbrev Cx.fs(X:Cx):L Addr:=oH X.outer
def xX(sc:oE)(x:Str):=(sc.names.lookup x>.local\/sc.names.lookup x>.cell\/sc.names.lookup x>.free:Prop)
def Loc(sc:oE)(x:Str):=(sc.names.lookup x>.local\/sc.names.lookup x>.cell:Prop)
noncomputable def Look(env:Env)(h:Heap)(m:AF)(x:Str)(u:F3):Prop:=
 (env.kindOf x>.local/\m x>u)\/((env.kindOf x>.cell\/env.kindOf x>.free)/\∃c,env.cells.lookup x>c/\h.IsCell c (some u))
structure Cx.Ok(X:Cx):Prop where
 mod:Mod X.K X.mg X.base
 kind:X.env.scope.kind=.function
 glob:X.env.globals=K4
 blt:X.env.builtins=vX
 above:X.s₀.heap.objs.size<=X.env.locals
 inj:∀x y c,X.env.cells.lookup x>c->X.env.cells.lookup y>c->x=y
 has:∀x,(X.env.kindOf x>.cell\/X.env.kindOf x>.free)->∃c,X.env.cells.lookup x>c
 cab:∀x c,X.fn x=true->X.env.cells.lookup x>c->X.s₀.heap.objs.size<=c
 hd:X.calm=true->X.A.handled=none
 frames:X.A.frames>X.stack
 stk:X.stack=X.outer\/(X.stack=X.env::X.outer/\X.env.frame>X.env.locals)
 exf:∀b∈X.ex,b≠X.env.locals/\∀x c,X.env.cells.lookup x>c->c≠b
 bs:∀b o,X.base.get? b>o->X.s₀.heap.get? b>o/\X.H₀ b=none
 bsz:X.base.objs.size<=X.s₀.heap.objs.size
 noex:∀b o,X.base.get? b>o->b∉X.ex
 exfs:∀b∈X.ex,b∉X.fs
 funs:X.s₀.heap.FunFrames X.base X.outer
 frf:∀b∈X.fs,X.H₀ b=none
structure Inv(X:Cx)(pins:IE)(σ:List (Option V))(H:Hp)(s:F2):Prop where
 ok:X.Ok
 os:s.os=X.s₀.os
 bare:jG s.gens
 base:Un X.fs X.ex X.H₀ H X.s₀.heap s.heap
 loc:∃m,s.heap.Ns X.env.locals m/\∀(i:Nat)(x:Str)(v:V),X.N[i]?>x->σ[i]?>some v->xX X.env.scope x->∃u,z9 v u/\Look X.env s.heap m x u
 cell:∀x c,X.env.cells.lookup x>c->∃v,s.heap.IsCell c v
 free:H X.env.locals=none
 freeC:∀x c,X.env.cells.lookup x>c->H c=none
 pin:∀p∈X.pn++pins,s.heap.get? p.1>p.2/\H p.1=none/\p.1≠X.env.locals/\p.1∉X.fs/\∀v,p.2.data≠.cell v
 hok:HOk X.prog X.w H s.heap
 len:σ.length=X.N.length
section
variable {X:Cx}{pins:IE}{σ:L (Op V)}{H H':Hp}{s:F2}{h':Heap}
def Cx.Ok.nofr(ok:X.Ok)(e:X.base.get? b>o):b∉X.fs:=λhb=>by
 have:=(ok.funs.mem hb).1
 grind
def Inv.bs(I:Inv X pins σ H s):∀b o,X.base.get? b>o->s.heap.get? b>o/\H b=none:=λb o e=>
 #[I.base.keep b o (I.ok.bs b o e).1 (I.ok.bs b o e).2 (I.ok.nofr e)<|I.ok.noex b o e,I.base.free b o (I.ok.bs b o e).1 (I.ok.bs b o e).2<|I.ok.noex b o e]
def Inv.bk(I:Inv X pins σ H s):∀b o,X.base.get? b>o->s.heap.get? b>o:=λb o e=>(I.bs b o e).1
def Inv.mod(I:Inv X pins σ H s):Mod X.K X.mg X.base:=I.ok.mod
def Inv.kIn(I:Inv X pins σ H s):X.K.In s.heap:=I.ok.mod.kin.keeps I.bk
def Inv.lt(I:Inv X pins σ H s):X.env.locals<s.heap.objs.size:=let ⟨_,hn,_⟩:=I.loc;hn.lt
def Inv.sz(I:Inv X pins σ H s):X.s₀.heap.objs.size<=s.heap.objs.size:=JA I.ok.above<|iJ I.lt
def Inv.nofs(I:Inv X pins σ H s)(h:s.heap.objs.size<=a):a∉X.fs:=λhb=>by
 let(_,o,z,_):=I.ok.funs.mem hb;show absurd (BA (CA z)<|JA I.sz h)<|RC _
def Inv.cne(I:Inv X pins σ H s):∀x c,X.env.cells.lookup x>c->c≠X.env.locals:=λx c e z=>by
 let(v,o,O,hd):=I.cell x c e;let(m,(o',es,ep,J,U,_),_):=I.loc
 grind
def Inv.funs(I:Inv X pins σ H s):s.heap.FunFrames X.base X.outer:=by
 have all:∀(l:L _),(∀b∈oH l,b∈X.fs)->X.s₀.heap.FunFrames X.base l->s.heap.FunFrames X.base l:=by
  intro l
  induction l with
  |nil=>intro _ _;trivial
  |cons env r ih=>
   intro hs hl;let(hk,(Lv,o,hf,hn,J,hd),hr):=hl;have hL:=hs Lv (by unfold oH;rw[rC,hf];show eA);let(O,e):=I.base.slot Lv o J (I.ok.frf Lv hL) hL λz=>I.ok.exfs Lv z hL
   show#[hk,#[Lv,_,hf,hn,e,hd],ih (λb hb=>hs b (by unfold oH;rw[rC,hf];show cA _ hb)) hr]
 show all _ (λ_ hb=>hb) I.ok.funs
def Inv.stack(I:Inv X pins σ H s):s.heap.FunFrames X.base X.stack:=by
 rcases I.ok.stk with e|⟨e,hf⟩
 .rw[e];show I.funs
 .rw[e];let(m,hn,_):=I.loc;refine .cons (by rw[I.ok.kind];decide) hf hn ?_ I.funs;show Heap.get?_none_of_le<|JA I.ok.bsz I.ok.above
def Inv.stkSub(I:Inv X pins σ H s):∀b∈oH X.stack,b∈X.env.locals::X.fs:=λb hb=>by
 rcases I.ok.stk with e|⟨e,hf⟩
 .rw[e]at hb;show cA _ hb
 .rw[e]at hb;unfold oH at hb;rw[rC,hf]at hb;show hb
def Inv.stkFree(I:Inv X pins σ H s):∀b∈oH X.stack,H b=none:=λb hb=>by
 rcases oA.mp (I.stkSub b hb) with e|hb
 .rw[e];show I.free
 .let(_,o,J,_):=I.ok.funs.mem hb;show I.base.free b o J (I.ok.frf b hb) λz=>I.ok.exfs b z hb
def Inv.step{g':Array MK}{t':Nat}{d':Drawn}{ch:L Addr}(I:Inv X pins σ H s)
  (U:∀b∈ch,(b∈X.ex\/X.s₀.heap.objs.size<=b)/\b≠X.env.locals/\(∀x c,X.env.cells.lookup x>c->c≠b)/\∀p∈X.pn++pins,p.1≠b)
  (keep:∀b o,b≠X.env.locals->b∉X.fs->b∉ch->s.heap.get? b>o->H b=none->h'.get? b>o)
  (slot:∀b o,b≠X.env.locals->b∈X.fs->b∉ch->s.heap.get? b>o->H b=none->∃sl,h'.get? b>{ o with slots:=sl }) (free:∀b o,b∉ch->s.heap.get? b>o->H b=none->H' b=none)
  (there:∀b o,b∉ch->s.heap.get? b>o->∃o',h'.get? b>o')
  (tups:∀b xs,H b>.tup xs->H' b>.tup xs) (frzs:∀b o u,H b>.frz o u->H' b>.frz o u) (tbls:∀b ps,H b>.tbl ps->∃more,H' b>(.tbl<|ps++more))
  (ns:∀m,s.heap.Ns X.env.locals m->h'.Ns X.env.locals m) (hok:HOk X.prog X.w H' h') (hg:jG g') :
  Inv X pins σ H' { s with heap:=h',gens:=g',drawn:=d',toks:=t' }:=by
 have sS:∀b o,X.s₀.heap.get? b>o->b≠X.env.locals:=λb o e=>GA<|BA (CA e) I.ok.above
 have rS:∀b o,X.s₀.heap.get? b>o->b∉X.ex->b∉ch:=λb o e hx hb=>by
  rcases(U b hb).1 with z|z
  .show hx z
  .show absurd (BA (CA e) z)<|RC _
 have J:∀x c,X.env.cells.lookup x>c->∀v,s.heap.IsCell c v->h'.IsCell c v:=λx c e v=>by
  rintro⟨o,O,hd⟩;have wQ:=λz=>(U c z).2.2.1 x c e rfl
  by_cases hc:c∈X.fs
  .let(sl,q):=slot c o (I.cne x c e) hc wQ O<|I.freeC x c e;show#[_,q,hd]
  .show#[o,keep c o (I.cne x c e) hc wQ O<|I.freeC x c e,hd]
 refine#[I.ok,I.os,hg,#[λb o e n hb hx=>?_,λb o e n hb hx=>?_,λb o e n hx=>?_,λb o e hx=>?_,λb xs e=>tups b xs<|I.base.tups b xs e,λb o xs e=>frzs b o xs<|I.base.frzs b o xs e,λb ps e=>?_],?_,λx c e=>?_,?_,λx c e=>?_,λp hp=>?_,hok,I.len]
 .show keep b o (sS b o e) hb (rS b o e hx) (I.base.keep b o e n hb hx)<|I.base.free b o e n hx
 .let(sl,e1):=I.base.slot b o e n hb hx;let(TX,Y):=slot b _ (sS b o e) hb (rS b o e hx) e1<|I.base.free b o e n hx;show#[TX,Y]
 .let(o',e1):=I.base.there b o e hx;show free b o' (rS b o e hx) e1<|I.base.free b o e n hx
 .let(o',e1):=I.base.there b o e hx;show there b o' (rS b o e hx) e1
 .let(m1,e1):=I.base.tbls b ps e;let(m2,Y):=tbls b _ e1;show#[m1++m2,by rw[Y,gP]]
 .let(m,hn,hl):=I.loc;refine#[m,ns m hn,λi x v e1 Y e3=>?_];let(u,r,l):=hl i x v e1 Y e3;refine#[u,r,?_];rcases l with l|⟨k,c,e,z⟩
  .show .inl l
  .show .inr #[k,c,e,J x c e _ z]
 .let(v,z):=I.cell x c e;show#[v,J x c e v z]
 .let(m,(o,_,_,O,_),_):=I.loc;show free _ o (λz=>(U _ z).2.1 rfl) O I.free
 .let(v,o,O,hd):=I.cell x c e;show free c o (λz=>(U c z).2.2.1 x c e rfl) O<|I.freeC x c e
 .let(e,n,ne,nf,d):=I.pin p hp;have wQ:=λz=>(U _ z).2.2.2 p hp rfl
  show#[keep _ _ ne nf wQ e n,free _ _ wQ e n,ne,nf,d]
def Inv.stepN{g':Array MK}{t':Nat}{d':Drawn}{ch:L Addr}(I:Inv X pins σ H s)
  (U:∀b∈ch,(b∈X.ex\/X.s₀.heap.get? b=none)/\b≠X.env.locals/\(∀x c,X.env.cells.lookup x>c->c≠b)/\∀p∈X.pn++pins,p.1≠b)
  (keep:∀b o,b≠X.env.locals->b∉X.fs->b∉ch->s.heap.get? b>o->H b=none->h'.get? b>o)
  (slot:∀b o,b≠X.env.locals->b∈X.fs->b∉ch->s.heap.get? b>o->H b=none->∃sl,h'.get? b>{ o with slots:=sl }) (free:∀b o,b∉ch->s.heap.get? b>o->H b=none->H' b=none)
  (there:∀b o,b∉ch->s.heap.get? b>o->∃o',h'.get? b>o')
  (tups:∀b xs,H b>.tup xs->H' b>.tup xs) (frzs:∀b o u,H b>.frz o u->H' b>.frz o u) (tbls:∀b ps,H b>.tbl ps->∃more,H' b>(.tbl<|ps++more))
  (ns:∀m,s.heap.Ns X.env.locals m->h'.Ns X.env.locals m) (hok:HOk X.prog X.w H' h') (hg:jG g') :
  Inv X pins σ H' { s with heap:=h',gens:=g',drawn:=d',toks:=t' }:=by
 have sS:∀b o,X.s₀.heap.get? b>o->b≠X.env.locals:=λb o e=>GA<|BA (CA e) I.ok.above
 have rS:∀b o,X.s₀.heap.get? b>o->b∉X.ex->b∉ch:=λb o e hx hb=>by
  rcases(U b hb).1 with z|z
  .show hx z
  .rw[z]at e;cases e
 have J:∀x c,X.env.cells.lookup x>c->∀v,s.heap.IsCell c v->h'.IsCell c v:=λx c e v=>by
  rintro⟨o,O,hd⟩;have wQ:=λz=>(U c z).2.2.1 x c e rfl
  by_cases hc:c∈X.fs
  .let(sl,q):=slot c o (I.cne x c e) hc wQ O<|I.freeC x c e;show#[_,q,hd]
  .show#[o,keep c o (I.cne x c e) hc wQ O<|I.freeC x c e,hd]
 refine#[I.ok,I.os,hg,#[λb o e n hb hx=>?_,λb o e n hb hx=>?_,λb o e n hx=>?_,λb o e hx=>?_,λb xs e=>tups b xs<|I.base.tups b xs e,λb o xs e=>frzs b o xs<|I.base.frzs b o xs e,λb ps e=>?_],?_,λx c e=>?_,?_,λx c e=>?_,λp hp=>?_,hok,I.len]
 .show keep b o (sS b o e) hb (rS b o e hx) (I.base.keep b o e n hb hx)<|I.base.free b o e n hx
 .let(sl,e1):=I.base.slot b o e n hb hx;let(TX,Y):=slot b _ (sS b o e) hb (rS b o e hx) e1<|I.base.free b o e n hx;show#[TX,Y]
 .let(o',e1):=I.base.there b o e hx;show free b o' (rS b o e hx) e1<|I.base.free b o e n hx
 .let(o',e1):=I.base.there b o e hx;show there b o' (rS b o e hx) e1
 .let(m1,e1):=I.base.tbls b ps e;let(m2,Y):=tbls b _ e1;show#[m1++m2,by rw[Y,gP]]
 .let(m,hn,hl):=I.loc;refine#[m,ns m hn,λi x v e1 Y e3=>?_];let(u,r,l):=hl i x v e1 Y e3;refine#[u,r,?_];rcases l with l|⟨k,c,e,z⟩
  .show .inl l
  .show .inr #[k,c,e,J x c e _ z]
 .let(v,z):=I.cell x c e;show#[v,J x c e v z]
 .let(m,(o,_,_,O,_),_):=I.loc;show free _ o (λz=>(U _ z).2.1 rfl) O I.free
 .let(v,o,O,hd):=I.cell x c e;show free c o (λz=>(U c z).2.2.1 x c e rfl) O<|I.freeC x c e
 .let(e,n,ne,nf,d):=I.pin p hp;have wQ:=λz=>(U _ z).2.2.2 p hp rfl
  show#[keep _ _ ne nf wQ e n,free _ _ wQ e n,ne,nf,d]
def Inv.un{t':Nat}(I:Inv X pins σ H s)(u:Un X.fs [] H H' s.heap h')(hok:HOk X.prog X.w H' h'):Inv X pins σ H' { s with heap:=h',toks:=t' }:=by
 let(m,(o,es,ep,O,r),_):=id I.loc;let(sl,hL):=u.any O I.free (by simp)
 show I.step (ch:=[]) (λ_ z=>nomatch z) (λb o _ hb _ e n=>u.keep b o e n hb<|by simp) (λb o _ hb _ e n=>u.slot b o e n hb<|by simp) (λb o _ e n=>u.free b o e n<|by simp) (λb o _ e=>u.there b o e<|by simp) u.tups u.frzs u.tbls (λm' hm=>by
  let(o',U,Y,J,r'):=hm;rw[O]at J;cases J;show#[_,U,Y,hL,r']) hok I.bare
def Inv.call{g':Array MK}{t':Nat}{d':Drawn}{ch:L Addr}(I:Inv X pins σ H s)(u:Un (oH X.stack) ch H H' s.heap h')(hok:HOk X.prog X.w H' h')(hg:jG g')
  (J:∀b∈ch,(b∈X.ex\/X.s₀.heap.objs.size<=b)/\b≠X.env.locals/\(∀x c,X.env.cells.lookup x>c->c≠b)/\∀p∈X.pn++pins,p.1≠b) :
  Inv X pins σ H' { s with heap:=h',gens:=g',drawn:=d',toks:=t' }:=by
 let(m,(o,es,ep,U,r),_):=id I.loc;let(sl,hL):=u.any U I.free λz=>(J _ z).2.1 rfl
 show I.step J (λb o hL hb hc e n=>u.keep b o e n (λz=>(oA.mp<|I.stkSub b z).elim hL hb) hc) (λb o _ _ hc e n=>u.any e n hc) (λb o hc e n=>u.free b o e n hc) (λb o hc e=>u.there b o e hc) u.tups u.frzs u.tbls (λm' hm=>by
  let(o',Y,eR,O,r'):=hm;rw[U]at O;cases O;show#[_,Y,eR,hL,r']) hok hg
def Inv.turned{t':Nat}{it:Addr}(I:Inv X pins σ H s)(k:∀b o,b≠it->s.heap.get? b>o->h'.get? b>o)(hn:H it=none)(hL:it≠X.env.locals)
  (h1:it∈X.ex\/X.s₀.heap.objs.size<=it) (h2:∀x c,X.env.cells.lookup x>c->c≠it) (h3:∀p∈X.pn++pins,p.1≠it):Inv X pins σ H { s with heap:=h',toks:=t' }:=by
 have J:∀b u,H b>u->b≠it:=λb u e z=>by simp_all
 refine I.step (ch:=[it]) (λb hb=>?_) (λb o _ _ hc e _=>k b o (λz=>hc<|by simp[z]) e) (λb o _ _ hc e _=>#[o.slots,k b o (λz=>hc<|by simp[z]) e]) (λ_ _ _ _ n=>n)
  (λb o hc e=>#[o,k b o (λz=>hc<|by simp[z]) e]) (λ_ _ e=>e) (λ_ _ _ e=>e) (λb ps e=>#[[].toArray,by simp_all]) (λm hm=>?_) (λb u e=>?_) I.bare
 .have e:=‹hb›
  subst e;show#[h1,hL,h2,h3]
 .let(o,es,ep,O,r):=hm;show#[o,es,ep,k _ o (Ne.symm hL) O,r]
 .refine(I.hok b u e).stay (λc v hc q=>k c v ?_ q) (λ_ q=>q) λ_ _ q=>q
  rcases hc with z|z
  .rw[z];show J b u e
  .show J c _ z
def Inv.tok(I:Inv X pins σ H s)(t:Nat):Inv X pins σ H { s with toks:=t }:=I.un Un.refl I.hok
def Inv.kept{t':Nat}(I:Inv X pins σ H s)(k:∀b u,s.heap.get? b>u->h'.get? b>u):Inv X pins σ H { s with heap:=h',toks:=t' }:=I.un (Un.kept k)<|I.hok.kept k
def Inv.laid{t':Nat}(I:Inv X pins σ H s)(k:∀b u,s.heap.get? b>u->h'.get? b>u)(hp:s.heap.objs.size<=a)(new:qA X.prog X.w (upd H a o) h' a o):
  Inv X pins σ (upd H a o) { s with heap:=h',toks:=t' }:=I.un (Un.laid k hp<|I.hok.fresh hp)<|I.hok.laid k hp new
def Inv.write{t':Nat}(I:Inv X pins σ H s)(J:fZ (H x))(he:e=x\/H e>.own x)(k:∀b u,b≠e->s.heap.get? b>u->h'.get? b>u)(z:∃u,h'.get? e>u)(new:qA X.prog X.w (upd H x o) h' x o):Inv X pins σ (upd H x o) { s with heap:=h',toks:=t' }:=I.un (Un.write J he k z)<|I.hok.write J he k z new
def Inv.pins_of(I:Inv X pins σ H s)(h:∀p∈J,s.heap.get? p.1>p.2/\H p.1=none/\p.1≠X.env.locals/\p.1∉X.fs/\∀v,p.2.data≠.cell v):Inv X J σ H s:=
 #[I.ok,I.os,I.bare,I.base,I.loc,I.cell,I.free,I.freeC,λp hp=>(pA.mp hp).elim (λz=>I.pin p<|HB _ z)<|h p,I.hok,I.len]
def zJe{N:L Str}(J:N.Nodup){i j:Nat}{x:Str}(a:N[i]?>x)(b:N[j]?>x):i=j:=by
 let(h1,e1):=vA.mp a;let(h2,z):=vA.mp b;show(NR J).mp (e1.trans z.symm)
def vh{E:jD}{i:Nat}{x:Str}{u:F3}{Q:Unit->F2->Prop}(I:Inv X pins σ H s)(hN:X.N.Nodup)(hi:X.N[i]?>x)(hx:Loc X.env.scope x)(r:z9 v u)(h:∀s',Inv X pins (σ.set i<|some v) H s'->(∃a,EC a s.heap s'.heap/\(a=X.env.locals\/X.env.cells.lookup x>a))->Q () s')(hf:X.fn x=true\/X.env.scope.names.lookup x>.local):F5 M A (storeName X.env x u) Q E s:=by
 let(m,hn,hl):=id I.loc;have Ie:(X.env.scope.kind==.class || (X.env.scope.kind==.module&&X.env.locals != X.env.globals))=false:=by rw[I.ok.kind];rfl
 have j0:i<σ.length:=by rw[I.len];show(vA.mp hi).1
 have cne:=I.cne
 have J:∀{a:Addr}{h':Heap},(∃o,s.heap.get? a>o/\H a=none)->EC a s.heap h'->HOk X.prog X.w H h':=λ{a h'} ha hs b ob e=>by
  let(_,_,YT):=ha;refine(I.hok b ob e).stay (λc Y hc q=>(hs.2 c ?_).trans q) (λ_ q=>q) λ_ _ q=>q
  rintro rfl;rcases hc with rfl|hc
  .rw[YT]at e;cases e
  .rw[YT]at hc;cases hc
 rcases hx with hk|hk
 .refine wpAny_storeName_local hk hn (λh' aU hs=>?_) Ie;let(oL,_,_,hoL,_):=id hn;refine h _ #[I.ok,I.os,I.bare,#[λb o e n hb hx=>?_,λb o e n hb hx=>?_,I.base.free,λb o e hx=>?_,I.base.tups,I.base.frzs,I.base.tbls],#[_,aU,λj y v' e1 O e3=>?_],λy c e=>?_,I.free,I.freeC,λp hp=>?_,J #[oL,hoL,I.free] hs,‹I.len›] #[_,hs,.inl rfl]
  .show(hs.2 b<|GA<|BA (CA e) I.ok.above).trans (I.base.keep b o e n hb hx)
  .let(sl,e1):=I.base.slot b o e n hb hx;show#[sl,(hs.2 b<|GA<|BA (CA e) I.ok.above).trans e1]
  .let(o',e1):=I.base.there b o e hx;show#[o',(hs.2 b<|GA<|BA (CA e) I.ok.above).trans e1]
  .by_cases hj:j=i
   .subst hj;rw[hi]at e1;cases e1;rw[cB j0]at O;cases O;show#[u,r,.inl #[hk,by simp]]
   .rw[LA<|Ne.symm hj]at O;let(u',r',q):=hl j y v' e1 O e3;refine#[u',r',?_];rcases q with⟨k,e⟩|⟨k,c,e,z⟩
    .refine .inl #[k,?_];have:y≠x:=λe=>hj (zJe hN e1<|e ▸ hi)
     simp[this,e]
    .show .inr #[k,c,e,z.sameBut hs<|cne y c e]
  .let(Y,z):=I.cell y c e;show#[Y,z.sameBut hs<|cne y c e]
  .let(e,n,ne,nf,d):=I.pin p hp;show#[(hs.2 p.1 ne).trans e,n,ne,nf,d]
 .have Ih:X.fn x=true:=by
   rcases hf with z|z
   .show z
   .rw[z]at hk;cases hk
  let(c,hc):=I.ok.has x<|.inl hk;let(Y,z):=I.cell x c hc;refine wpAny_storeName_cell I.ok.kind hk hc z (λh' FV hs=>?_);let(oc,Wm,Iv):=id z;refine h { s with heap:=h' } #[I.ok,I.os,I.bare,#[λb o e n hb hx=>?_,λb o e n hb hx=>?_,I.base.free,λb o e hx=>?_,I.base.tups,I.base.frzs,I.base.tbls],#[m,hn.sameBut hs<|Ne.symm<|cne x c hc,λj y v' e1 O e3=>?_],λy U e=>?_,I.free,I.freeC,λp hp=>?_,J #[oc,Wm,I.freeC x c hc] hs,‹I.len›] #[c,hs,.inr hc]
  .show(hs.2 b<|GA<|BA (CA e)<|I.ok.cab x c Ih hc).trans (I.base.keep b o e n hb hx)
  .let(sl,e1):=I.base.slot b o e n hb hx;show#[sl,(hs.2 b<|GA<|BA (CA e)<|I.ok.cab x c Ih hc).trans e1]
  .let(o',e1):=I.base.there b o e hx;show#[o',(hs.2 b<|GA<|BA (CA e)<|I.ok.cab x c Ih hc).trans e1]
  .by_cases hj:j=i
   .subst hj;rw[hi]at e1;cases e1;rw[cB j0]at O;cases O;show#[u,r,.inr #[.inl hk,c,hc,FV]]
   .rw[LA<|Ne.symm hj]at O;let(u',r',q):=hl j y v' e1 O e3;refine#[u',r',?_];rcases q with q|⟨k,U,e,z'⟩
    .show .inl q
    .refine .inr #[k,U,e,z'.sameBut hs ?_];rintro rfl;show hj<|zJe hN e1<|I.ok.inj _ _ _ e hc ▸ hi
  .by_cases BX:U=c
   .subst BX;show#[_,FV]
   .let(w2,z2):=I.cell y U e;show#[w2,z2.sameBut hs BX]
  .let(e,n,ne,nf,d):=I.pin p hp;refine#[(hs.2 p.1 ?_).trans e,n,ne,nf,d];intro q;rw[q,Wm]at e;have q':oc=p.2:=KB e;show d Y (by rw[<- q'];show Iv)
def Cf{E:jD}{Q:Unit->F2->Prop}(I:Inv X pins σ H s)(O:X.N.Nodup)(hi:X.N[i]?>x)(hx:Loc X.env.scope x)(r:z9 v u)(h:∀s',Inv X pins (σ.set i<|some v) H s'->Q () s')(hf:X.fn x=true\/X.env.scope.names.lookup x>.local):F5 M A (storeName X.env x u) Q E s:=
 vh I O hi hx r (λs' J _=>h s' J) hf
def Inv.call'{s':F2}(I:Inv X pins σ H s)(O:s'.os=s.os)(u:Un (oH X.stack) ch H H' s.heap s'.heap)(hok:HOk X.prog X.w H' s'.heap)(J:jG s'.gens)(z:∀b∈ch,(b∈X.ex\/X.s₀.heap.objs.size<=b)/\b≠X.env.locals/\(∀x c,X.env.cells.lookup x>c->c≠b)/\∀p∈X.pn++pins,p.1≠b):Inv X pins σ H' s':=by
 let(h',g',d',t',o'):=s';have e:=O;subst e;show I.call u hok J z
end
abbrev XK:=F3->Op Addr->Hp->Prop
abbrev St:=L<|Op V
abbrev VK:=V->Hp->Prop
abbrev TE:=St->Hp->VK->Prop
abbrev TT:=St->Hp->(Bool->Hp->Prop)->Prop
abbrev TA:=St->Hp->(L V->Hp->Prop)->Prop
structure MQ where
 nx:St->Hp->Prop
 rt:VK
 bk:St->Hp->Prop:=λ_ _=>False
 ct:St->Hp->Prop:=λ_ _=>False
abbrev TS:=MQ->St->Hp->Prop
def EP(X:Cx)(pins:IE)(σ:St)(Q:VK)(u:F3)(s':F2):=(∃v H',Inv X pins σ H' s'/\z9 v u/\Q v H':Prop)
def TP(X:Cx)(pins:IE)(σ:St)(Q:Bool->Hp->Prop)(b:Bool)(s':F2):=(∃H',Inv X pins σ H' s'/\Q b H':Prop)
def AP(X:Cx)(pins:IE)(σ:St)(Q:L V->Hp->Prop)(us:L F3)(s':F2):=(∃vs H',Inv X pins σ H' s'/\zl vs us/\Q vs H':Prop)
noncomputable def SP(X:Cx)(pins:IE)(D:MQ)(f:Flow)(s':F2):Prop:=
 match f with
 |.next=>∃ZC H',Inv X pins ZC H' s'/\D.nx ZC H'
 |.brk=>∃ZC H',Inv X pins ZC H' s'/\D.bk ZC H'
 |.cont=>∃ZC H',Inv X pins ZC H' s'/\D.ct ZC H'
 |.ret u=>∃v ZC H',Inv X pins ZC H' s'/\z9 v u/\D.rt v H'
noncomputable def PE(X:Cx)(e:Expr)(t:TE):Prop:=
 ∀(pins:IE)(s:F2)(σ:St)(H:Hp)(Q:VK),Inv X pins σ H s->t σ H Q->F5 (F4 X.prog X.w) X.A (eval e X.env) (EP X pins σ Q) X.xe s
noncomputable def PT(X:Cx)(e:Expr)(t:TT):Prop:=
 ∀(pins:IE)(s:F2)(σ:St)(H:Hp)(Q:Bool->Hp->Prop),Inv X pins σ H s->t σ H Q->F5 (F4 X.prog X.w) X.A (isTrue e X.env<|eval e X.env) (TP X pins σ Q) X.xe s
noncomputable def PW(X:Cx)(e:Expr)(t:TT):Prop:=
 ∀(whole:Sem F3)(pins:IE)(s:F2)(σ:St)(H:Hp)(Q:Bool->Hp->Prop),Inv X pins σ H s->t σ H Q->F5 (F4 X.prog X.w) X.A (isTrue e X.env whole) (TP X pins σ Q) X.xe s
def PW.pt(h:PW X e t):PT X e t:=h _
noncomputable def PA(X:Cx)(es:L Expr)(t:TA):Prop:=
 ∀(pos:Pos)(pins:IE)(s:F2)(σ:St)(H:Hp)(Q:L V->Hp->Prop),Inv X pins σ H s->t σ H Q->F5 (F4 X.prog X.w) X.A (spliced<|N4 pos<|F7 es X.env) (AP X pins σ Q) X.xe s
noncomputable def PS(X:Cx)(st:Stmt)(t:TS):Prop:=
 ∀(pins:IE)(s:F2)(σ:St)(H:Hp)(D:MQ),Inv X pins σ H s->t D σ H->F5 (F4 X.prog X.w) X.A (exec st X.env) (SP X pins D) X.xe s
noncomputable def oK(X:Cx)(st:L Stmt)(t:TS):Prop:=
 ∀(pins:IE)(s:F2)(σ:St)(H:Hp)(D:MQ),Inv X pins σ H s->t D σ H->F5 (F4 X.prog X.w) X.A (execs st X.env) (SP X pins D) X.xe s
def iD{J:Type}{t:Sem J}{Q z:J->F2->Prop}{M:Model}{A:F8}{E:jD}{s:F2}(h:F5 M A t Q E s)(hQ:∀a s,Q a s->z a s):F5 M A t z E s:=K0 h hQ λ_ _ x=>x
end L2
namespace L2
open PySem PySem.Spec PyProof.Rows
section
variable {X:Cx}
def bin(ha:PE X a ta)(hb:PE X b tb){pins:IE}{R:V->V->Hp->Prop}(I:Inv X pins σ H s)(h:ta σ H λx H1=>tb σ H1 λy H2=>R x y H2){J:Type}{Q:J->F2->Prop}{f:F3->F3->Sem J}(hf:∀v u s2 x y H2,Inv X pins σ H2 s2->z9 x v->z9 y u->R x y H2->F5 (F4 X.prog X.w) X.A (f v u) Q X.xe s2):
  F5 (F4 X.prog X.w) X.A (eval a X.env) (λv O=>F5 (F4 X.prog X.w) X.A (eval b X.env) (λu U=>F5 (F4 X.prog X.w) X.A (f v u) Q X.xe U) X.xe O) X.xe s:=by
 refine iD (ha pins s σ H _ I h) λv s1 zz=>?_
 let(x,H1,I1,r1,q1):=zz;refine iD (hb pins s1 σ H1 _ I1 q1) λu s2 zz=>?_
 let(y,H2,I2,r2,Y):=zz;show hf v u s2 x y H2 I2 r1 r2 Y
def qk(i:Nat):=(λσ H Q=>∃v,σ[i]?>some v/\Q v H:TE)
def tC(v:V):=(λ_ H Q=>Q v H:TE)
def zRb(O:X.N[i]?>x)(hv:xX X.env.scope x)(hd:(x==("__debug__" : Str))=false)(J:(x==("__classdict__" : Str))=false):PE X (.Name x pos) (qk i):=by
 intro pins s σ H Q I h;let(v,e,h):=h;let(m,hn,hl):=I.loc;let(u,r,l):=hl i x v O e hv;have fin:EP X _ σ Q u s:=#[v,H,I,r,h]
 rcases l with⟨hk,hm⟩|⟨hk,c,hc,z⟩
 .show wX (wpAny_loadName_local I.ok.kind hk hn hm fin) hd
 .rcases hk with hk|hk
  .show wX (wpAny_loadName_cell I.ok.kind hk hc z fin) hd
  .show wX (wpAny_loadName_free I.ok.kind hk hc z fin J) hd
def Rm{i j pos}:PE X (.Constant (.int i) j pos) (tC<|.int i):=λ_ _ _ H _ I h=>wpAny_Constant_int #[.int i,H,I.tok _,#[_,rfl],h]
def S2{b j pos}:PE X (.Constant (.bool b) j pos) (tC<|.bl b):=λ_ _ _ H _ I h=>Constant_bool #[.bl b,H,I,rfl,h]
def zV1{j pos}:PE X (.Constant .none j pos) (tC .non):=λ_ _ _ H _ I h=>iP #[.non,H,I,rfl,h]
def zRc{x j pos}:PE X (.Constant (.str x) j pos) (tC<|.str x):=λ_ _ _ H _ I h=>UF #[.str x,H,I.tok _,#[_,rfl],h]
def Gl(X:Cx)(x:Str):=(X.env.kindOf x>.globalImplicit:Prop)
def ZX{E:jD}{Q:jD}(I:Inv X pins σ H s)(z:Gl X x)(hm:X.mg x>u)(h:Q u s)(hd:(x==("__debug__" : Str))=false):F5 (F4 X.prog X.w) X.A (eval (.Name x pos) X.env) Q E s:=
 JK I.ok.kind z (Calls.loadGlobal_global (by rw[I.ok.glob];show I.mod.glob.keeps I.bk) hm h) hd
def gY{E:jD}{Q:jD}(I:Inv X pins σ H s)(z:Gl X x)(hm:X.mg x=none)(hv:oB x>u)(h:Q u s)(hn:x ≠ "__name__":=by decide)(hd:(x==("__debug__" : Str))=false:=by decide):F5 (F4 X.prog X.w) X.A (eval (.Name x pos) X.env) Q E s:=by
 let(J,h1,h2):=I.mod.blt;show JK I.ok.kind z (Calls.loadGlobal_builtin (by rw[I.ok.glob];show I.mod.glob.keeps I.bk) hm (by rw[I.ok.blt];show h1.keeps I.bk) ((h2 x hn).trans hv) h) hd
def zL7(J:Gl X x)(hm:X.mg x>u)(r:z9 v u)(hd:(x==("__debug__" : Str))=false):PE X (.Name x pos) (tC v):=
 λ_ _ _ H _ I h=>ZX I J hm #[v,H,I,r,h] hd
def zL8(J:Gl X x)(hm:X.mg x=none)(hv:oB x>u)(r:z9 v u)(hn:x ≠ "__name__":=by decide)(hd:(x==("__debug__" : Str))=false:=by decide):PE X (.Name x pos) (tC v):=
 λ_ _ _ H _ I h=>gY I J hm hv #[v,H,I,r,h] hn hd
def t2I(ta tb:TE)(k:Int->Int->Hp->Prop):=(λσ H=>ta σ H λx H1=>tb σ H1 λy H2=>∃i j,x=.int i/\y=.int j/\k i j H2:St->Hp->Prop)
variable {a b:Expr}{ta tb:TE}{pos:Pos}
noncomputable def PC(X:Cx)(op:CmpOp)(a b:Expr)(t:TE):Prop:=
 ∀(pins:IE)(s:F2)(σ:St)(H:Hp)(Q:VK),Inv X pins σ H s->t σ H Q ->
  F5 (F4 X.prog X.w) X.A (eval a X.env) (λv GC=>F5 (F4 X.prog X.w) X.A (eval b X.env) (λu XG=>F5 (F4 X.prog X.w) X.A (N1 op v u) (EP X pins σ Q) X.xe XG) X.xe GC) X.xe s
def zJf(b:Expr)(h:op≠.In)(h2:op≠.NotIn):QB op b=false:=by
 have e1:(op==CmpOp.In)=false:=by cases op<;>first|rfl|show absurd rfl h
 have z:(op==CmpOp.NotIn)=false:=by cases op<;>first|rfl|show absurd rfl h2
 cases b<;>simp[QB,e1,z]
def Lj(p:Int->Int->Bool)(ta tb:TE):=(λσ H Q=>t2I ta tb (λi j H2=>Q (.bl<|p i j) H2) σ H:TE)
abbrev tGt:TE->TE->TE:=Lj λi j=>decide<|j<i
def Lp(ta:TE):=(λσ H Q=>ta σ H λx H1=>Q (.bl<|decide<|x=.non) H1:TE)
def E5(ta:TE):=(λσ H Q=>ta σ H λx H1=>Q (.bl<|!decide (x=.non)) H1:TE)
def z9.none_iff{x:V}{v:F3}(r:z9 x v):(v==pC)=decide (x=.non):=by
 cases x with
 |non=>cases r;rfl
 |bl _=>cases r;rfl
 |int _=>let(t,rfl):=r;rfl
 |str _=>let(t,rfl):=r;rfl
 |byt _=>let(t,rfl):=r;rfl
 |flt _=>let(t,rfl):=r;rfl
 |ref _=>cases r;rfl
 |ty _=>cases r;rfl
def zV2{j pos'}(ha:PE X a ta):PC X .Is a (.Constant .none j pos') (Lp ta):=by
 intro pins s σ H Q I h;refine iD (ha pins s σ H _ I h) λv s1 zz=>?_
 let(x,H1,I1,r1,q1):=zz;show iP (is_none_gen #[.bl _,H1,I1,by rw[r1.none_iff];rfl,q1])
def zSX{j pos'}(ha:PE X a ta):PC X .IsNot a (.Constant .none j pos') (E5 ta):=by
 intro pins s σ H Q I h;refine iD (ha pins s σ H _ I h) λv s1 zz=>?_
 let(x,H1,I1,r1,q1):=zz;show iP (isnot_none_gen #[.bl _,H1,I1,by rw[r1.none_iff];rfl,q1])
def tB(t:TE):=(λσ H Q=>t σ H λx H1=>∃c,x=.bl c/\Q c H1:TT)
def zRd(h:PC X op a b t)(h1:QB op b=false:=by first|show zJf _ 02 02|rfl):PE X (.Compare a [op] [b] pos) t:=λpins s σ H Q I hw=>Va (h _ s σ H Q I hw) h1
def Rn{op:CmpOp}{t:TE}(h:PC X op a b t)(h1:QB op b=false:=by first|show zJf _ 02 02|rfl):PT X (.Compare a [op] [b] pos) (tB t):=by
 intro pins s σ H Q I hw;refine QR (iD (h _ s σ H _ I hw) λv s1 h1=>iD h1 λu s2 h2=>iD h2 λc s3 z=>?_) h1;let(x,H1,I1,r1,q1):=z;let(d,rfl,q):=q1;cases r1;show N6 #[H1,I1,q]
variable {tA Ac:TT}{rest:L Expr}
def Lh(t u:TT):=(λσ H Q=>t σ H λc H1=>if c=true then u σ H1 Q else Q false H1:TT)
def tOr(t u:TT):=(λσ H Q=>t σ H λc H1=>if c=true then Q true H1 else u σ H1 Q:TT)
def Lr(t:TT):=(λσ H Q=>t σ H λc H1=>Q (!c) H1:TT)
def zSY(ha:PT X a tA):PW X (.BoolOp .And [a] pos) tA:=by
 intro z pins s σ H Q I h;refine isTrue_and (iD (ha _ s σ H Q I h) λc s1 e=>?_)
 cases c with
 |true=>show isTrue_and_nil e
 |false=>show e
def zV3(ha:PT X a tA):PW X (.BoolOp .Or [a] pos) tA:=by
 intro z pins s σ H Q I h;refine isTrue_or (iD (ha _ s σ H Q I h) λc s1 e=>?_)
 cases c with
 |false=>show isTrue_or_nil e
 |true=>show e
def zV4(ha:PT X a tA)(hb:PW X (.BoolOp .And (b::rest) pos) Ac):PW X (.BoolOp .And (a::b::rest) pos) (Lh tA Ac):=by
 intro z pins s σ H Q I h;refine isTrue_and (iD (ha _ s σ H _ I h) λc s1 zz=>?_);let(H1,I1,q1):=zz
 cases c with
 |true=>show hb z _ s1 σ H1 Q I1 q1
 |false=>show#[H1,I1,q1]
def X2(ha:PT X a tA)(hb:PW X (.BoolOp .Or (b::rest) pos) Ac):PW X (.BoolOp .Or (a::b::rest) pos) (tOr tA Ac):=by
 intro z pins s σ H Q I h;refine isTrue_or (iD (ha _ s σ H _ I h) λc s1 zz=>?_);let(H1,I1,q1):=zz
 cases c with
 |true=>show#[H1,I1,q1]
 |false=>show hb z _ s1 σ H1 Q I1 q1
def zV5(ha:PT X a tA):PT X (.UnaryOp .Not a pos) (Lr tA):=by
 intro pins s σ H Q I h;show isTrue_not<|ha _ s σ H _ I h
def j5(ta tb:TE):=(λσ H Q=>ta σ H λx H1=>∃c,x=.bl c/\if c=true then tb σ H1 Q else Q (.bl false) H1:TE)
def Ls(ta tb:TE):=(λσ H Q=>ta σ H λx H1=>∃c,x=.bl c/\if c=true then Q (.bl true) H1 else tb σ H1 Q:TE)
def J5(ta:TE):=(λσ H Q=>ta σ H λx H1=>∃c,x=.bl c/\Q (.bl<|!c) H1:TE)
def zRe{op}(h:PE X a t):PE X (.BoolOp op [a] pos) t:=λpins s σ H Q I hw=>BoolOp_one<|h _ s σ H Q I hw
def Ro(ha:PE X a ta)(hb:PE X (.BoolOp .And (b::rest) pos) tb):PE X (.BoolOp .And (a::b::rest) pos) (j5 ta tb):=by
 intro pins s σ H Q I h;refine BoolOp_and (iD (ha _ s σ H _ I h) λv s1 zz=>?_);obtain⟨x,H1,I1,r1,q1⟩:=zz;obtain⟨c,rfl,q1⟩:=q1;cases r1;refine N6 ?_
 cases c with
 |true=>show hb _ s1 σ H1 Q I1 q1
 |false=>show#[.bl _,H1,I1,rfl,q1]
def V2(ha:PE X a ta)(hb:PE X (.BoolOp .Or (b::rest) pos) tb):PE X (.BoolOp .Or (a::b::rest) pos) (Ls ta tb):=by
 intro pins s σ H Q I h;refine BoolOp_or (iD (ha _ s σ H _ I h) λv s1 zz=>?_);obtain⟨x,H1,I1,r1,q1⟩:=zz;obtain⟨c,rfl,q1⟩:=q1;cases r1;refine N6 ?_
 cases c with
 |false=>show hb _ s1 σ H1 Q I1 q1
 |true=>show#[.bl _,H1,I1,rfl,q1]
def zRf(ha:PE X a ta):PE X (.UnaryOp .Not a pos) (J5 ta):=by
 intro pins s σ H Q I h;refine Uu (iD (ha _ s σ H _ I h) λv s1 zz=>?_);obtain⟨x,H1,I1,r1,q1⟩:=zz;obtain⟨c,rfl,q1⟩:=q1;cases r1;show not_of<|N6 #[.bl _,H1,I1,rfl,q1]
def tIf(t:TT)(ta tb:TE):=(λσ H Q=>t σ H λc H1=>if c=true then ta σ H1 Q else tb σ H1 Q:TE)
def zPC{c:Expr}(hc:PT X c tA)(ha:PE X a ta)(hb:PE X b tb):PE X (.IfExp c a b pos) (tIf tA ta tb):=by
 intro pins s σ H Q I h;refine wpAny_IfExp (iD (hc _ s σ H _ I h) λd s1 zz=>?_);let(H1,I1,q1):=zz
 cases d with
 |true=>show ha _ s1 σ H1 Q I1 q1
 |false=>show hb _ s1 σ H1 Q I1 q1
end
end L2
namespace L2
open PySem PySem.Spec PyProof.Rows
noncomputable def vF(K:Fg)(H:Hp)(a:Addr)(xs:L V):Prop:=
 Rd H a (.lst xs) \/
  ∃(o:Obj)(its:Array F3)(n:Nat),K.lookup a>o/\o.cls=.type "list"/\o.dict=none/\o.data=.seq its n/\its.size<=sizeLine/\zl xs its.toList
noncomputable def HI(K:Fg)(H:Hp)(a:Addr)(xs:L V):Prop:=
 Rd H a (.tup xs) \/
  ∃(o:Obj)(its:Array F3)(n:Nat),K.lookup a>o/\o.cls=.type "tuple"/\o.dict=none/\o.data=.seq its n/\its.size<=sizeLine/\zl xs its.toList
noncomputable def Gr:F3->Op V
 |.none=>some .non
 |.bool b=>some<|.bl b
 |.int i _=>some<|.int i
 |.str x _=>some<|.str x
 |.bytes b _=>some<|.byt b
 |.float b _=>some<|.flt b
 |.ref a=>some<|.ref a
 |.type n=>some<|.ty n
 |_=>none
def z9.abs(r:z9 x u):Gr u>x:=by
 cases x with
 |non=>cases r;rfl
 |bl _=>cases r;rfl
 |int _=>let(t,rfl):=r;rfl
 |str _=>let(t,rfl):=r;rfl
 |byt _=>let(t,rfl):=r;rfl
 |flt _=>let(t,rfl):=r;rfl
 |ref _=>cases r;rfl
 |ty _=>cases r;rfl
def z9.inj{x y:V}{u:F3}(r:z9 x u)(q:z9 y u):x=y:=KB<|r.abs.symm.trans q.abs
def zl.inj{xs ys:L V}{us:L F3}(h:zl xs us)(k:zl ys us):xs=ys:=by
 induction h generalizing ys with
 |nil=>cases k;rfl
 |cons r t ih=>cases k with
  |cons z t'=>rw[r.inj z,ih t']
section
variable {X:Cx}{pins:IE}{σ:St}{H:Hp}{s:F2}{a:Addr}{xs ys:L V}
def vF.of{K:Fg}(h:H a>.lst xs):vF K H a xs:=.inl<|.inl h
def HI.of{K:Fg}(h:H a>.tup xs):HI K H a xs:=.inl<|.inl h
def Inv.list(I:Inv X pins σ H s)(h:vF X.K H a xs):∃its:L F3,zl xs its/\PlainL s.heap a its.toArray/\xs.length<=sizeLine:=by
 rcases h with h|⟨o,its,n,hk,hc,hd,hs,hz,r⟩
 .let(z,its,n,r,e):=h.ok I.hok;show#[its,r,#[_,n,e,rfl,rfl,rfl],z]
 .refine#[its.toList,r,#[o,n,I.kIn a o hk,hc,hd,01],?_];have e:=r.length
  grind
def Inv.tupleN(I:Inv X pins σ H s)(h:HI X.K H a xs):∃its:L F3,zl xs its/\QO s.heap a its.toArray/\xs.length<=sizeLine:=by
 rcases h with h|⟨o,its,n,hk,hc,hd,hs,hz,r⟩
 .let(z,its,r,p):=h.ok I.hok;show#[its,r,p,z]
 .refine#[its.toList,r,#[o,I.kIn a o hk,hc,n,01,hd],?_];have e:=r.length
  grind
def Inv.tuple(I:Inv X pins σ H s)(h:HI X.K H a xs):∃its:L F3,zl xs its/\bQ s.heap a its.toArray/\xs.length<=sizeLine:=
 let ⟨its,r,p,z⟩:=I.tupleN h
 #[its,r,p.tup,z]
def Inv.list_inj(I:Inv X pins σ H s)(h:vF X.K H a xs)(h':vF X.K H a ys):xs=ys:=by
 let(its,r,(o,n,e,_,_,d),_):=I.list h;let(J,z,(o',O,e',_,_,d'),_):=I.list h';rw[e]at e';cases e';rw[d]at d';injection d' with d1 _;have:=‹congrArg iX d1›
 subst this;show r.inj z
def Inv.tuple_inj(I:Inv X pins σ H s)(h:HI X.K H a xs)(h':HI X.K H a ys):xs=ys:=by
 let(its,r,(o,e,_,n,d),_):=I.tuple h;let(J,z,(o',e',_,O,d'),_):=I.tuple h';rw[e]at e';cases e';rw[d]at d';injection d' with d1 _;have:=‹congrArg iX d1›
 subst this;show r.inj z
end
noncomputable abbrev Cx.wish(X:Cx)(E:jD):Cx:={ X with xe:=E }
abbrev Cx.nox(X:Cx):Cx:=X.wish λ_ _=>False
def Cx.Ok.wish{X:Cx}(ok:X.Ok)(E:jD):(X.wish E).Ok:=
 #[ok.mod,ok.kind,ok.glob,ok.blt,ok.above,ok.inj,ok.has,ok.cab,ok.hd,ok.frames,ok.stk,ok.exf,ok.bs,ok.bsz,ok.noex,ok.exfs,ok.funs,ok.frf]
def Cx.Ok.unwish{X:Cx}{E:jD}(ok:(X.wish E).Ok):X.Ok:=
 #[ok.mod,ok.kind,ok.glob,ok.blt,ok.above,ok.inj,ok.has,ok.cab,ok.hd,ok.frames,ok.stk,ok.exf,ok.bs,ok.bsz,ok.noex,ok.exfs,ok.funs,ok.frf]
section
variable {X:Cx}{pins:IE}{σ:St}{H:Hp}{s:F2}{E:jD}
def Inv.wish(I:Inv X pins σ H s)(E:jD):Inv (X.wish E) pins σ H s:=#[I.ok.wish E,I.os,I.bare,I.base,I.loc,I.cell,I.free,I.freeC,I.pin,I.hok,I.len]
def Inv.unwish(I:Inv (X.wish E) pins σ H s):Inv X pins σ H s:=#[I.ok.unwish,I.os,I.bare,I.base,I.loc,I.cell,I.free,I.freeC,I.pin,I.hok,I.len]
def SP.unwish(h:SP (X.wish E) pins D f s'):SP X pins D f s':=by
 cases f with
 |next=>let(z,H',I,q):=h;show#[z,H',I.unwish,q]
 |brk=>let(z,H',I,q):=h;show#[z,H',I.unwish,q]
 |cont=>let(z,H',I,q):=h;show#[z,H',I.unwish,q]
 |ret u=>let(v,z,H',I,r,q):=h;show#[v,z,H',I.unwish,r,q]
def oK.nox{st:L Stmt}(h:oK X.nox st t):oK X st t:=λpins s σ H D I hw=>
 K0 (h _ s σ H D (I.wish _) hw) (λ_ _ q=>q.unwish) λ_ _ z=>False.elim z
end
section
variable {X:Cx}{st:Stmt}{rest:L Stmt}{t u:TS}{e:Expr}{te:TE}{pos:Pos}
def D5:=(λD σ H=>D.nx σ H:TS)
def Lw(t u:TS):=(λD σ H=>t { D with nx:=u D } σ H:TS)
def zSZ:oK X [] D5:=λ_ _ σ H _ I h=>ah #[σ,H,I,h]
def zJg(h1:PS X st t)(h2:oK X rest u):oK X (st::rest) (Lw t u):=by
 intro pins s σ H D I h;refine bz (iD (h1 _ s σ H _ I h) λf s1 q=>?_)
 cases f with
 |next=>
  let(J,H',z,q):=q
  show h2 _ s1 _ H' D z q
 |ret v=>show q
 |brk=>show q
 |cont=>show q
def Qj(h1:PS X st t):oK X [st] t:=by
 intro pins s σ H D I h;refine bz (iD (h1 _ s σ H D I h) λf s1 q=>?_)
 cases f with
 |next=>show ah q
 |ret v=>show q
 |brk=>show q
 |cont=>show q
def A5:=(λD σ H=>D.ct σ H:TS)
def zIn:PS X (.Continue pos) A5:=λ_ _ σ H _ I h=>wpAny_Continue #[σ,H,I,h]
def Inv.quiet{pins:IE}{σ:St}{H:Hp}{s:F2}(I:Inv X pins σ H s):interactive X.env=false:=by simp[interactive,I.ok.kind]
def C5(te:TE):=(λD σ H=>te σ H λ_ H1=>D.nx σ H1:TS)
def qz(he:PE X e te)(hs:dF e none pos.line X.env=pure false):PS X (.Expr e pos) (C5 te):=by
 intro pins s σ H D I h;show wpAny_Expr_any (iD (he _ s σ H _ I h) λv s1 ⟨x,H1,I1,r1,q1⟩=>#[σ,H1,I1,q1]) I.quiet hs
def Lu(te:TE):=(λD σ H=>te σ H D.rt:TS)
def iY(he:PE X e te):PS X (.Return (some e) pos) (Lu te):=by
 intro pins s σ H D I h;show wpAny_Return_some (iD (he _ s σ H _ I h) λv s1 ⟨x,H1,I1,r1,q1⟩=>#[x,σ,H1,I1,r1,q1])
def Lo(c:TT)(t u:TS):=(λD σ H=>c σ H λb H1=>if b=true then t D σ H1 else u D σ H1:TS)
def Tf{a b:L Stmt}(hc:PT X c tc)(ha:oK X a t)(hb:oK X b u):PS X (.If c a b pos) (Lo tc t u):=by
 intro pins s σ H D I h;refine wpAny_If (iD (hc _ s σ H _ I h) λd s1 zz=>?_);let(H1,I1,q1):=zz
 cases d with
 |true=>show ha _ s1 σ H1 D I1 q1
 |false=>show hb _ s1 σ H1 D I1 q1
def zV6:=(λ_ _ _=>False:TS)
def zPD:PS X st zV6:=λ_ _ _ _ _ _ h=>h.elim
end
abbrev TG:=V->St->Hp->(St->Hp->Prop)->Prop
abbrev lV:=L V->St->Hp->(St->Hp->Prop)->Prop
noncomputable def PG(X:Cx)(target:Expr)(t:TG):Prop:=
 ∀(pins:IE)(s:F2)(σ:St)(H:Hp)(v:V)(u:F3)(Q:St->Hp->Prop),Inv X pins σ H s->z9 v u->t v σ H Q ->
  F5 (F4 X.prog X.w) X.A (bj target X.env u) (λ_ s'=>∃ZC H',Inv X pins ZC H' s'/\Q ZC H') X.xe s
noncomputable def iV(X:Cx)(ts:L Expr)(t:lV):Prop:=
 ∀(pins:IE)(s:F2)(σ:St)(H:Hp)(vs:L V)(us:L F3)(Q:St->Hp->Prop),Inv X pins σ H s->zl vs us->t vs σ H Q ->
  F5 (F4 X.prog X.w) X.A (assignInOrder ((N3 ts X.env).map (·.2)) us) (λ_ s'=>∃ZC H',Inv X pins ZC H' s'/\Q ZC H') X.xe s
abbrev mV:=V->V->V->Hp->(Hp->Prop)->Prop
noncomputable def hZ(X:Cx)(t:mV):Prop:=
 ∀(pins:IE)(s:F2)(σ:St)(H:Hp)(o i v:V)(ov iv u:F3)(Q:Hp->Prop),Inv X pins σ H s->z9 o ov->z9 i iv->z9 v u->t o i v H Q ->
  F5 (F4 X.prog X.w) X.A (fg ov iv u) (λ_ s'=>∃H',Inv X pins σ H' s'/\Q H') X.xe s
section
variable {X:Cx}{pos:Pos}
def zV7(i:Nat):=(λv σ H Q=>Q (σ.set i<|some v) H:TG)
def zSb(J:X.N.Nodup)(hi:X.N[i]?>x)(hx:Loc X.env.scope x)(hf:X.fn x=true\/X.env.scope.names.lookup x>.local):PG X (.Name x pos) (zV7 i):=by
 intro pins s σ H v u Q I r h;show WY (Cf I J hi hx r (λs' z=>#[_,H,z,h]) hf)
def Hj:=(λvs σ H Q=>vs=[]/\Q σ H:lV)
def FZ(t:TG)(u:lV):=(λvs σ H Q=>∃v r,vs=v::r/\t v σ H λZC H'=>u r ZC H' Q:lV)
def zSc:iV X [] Hj:=by
 intro pins s σ H vs us Q I r h;obtain⟨e,h⟩:=h;subst e;show assignInOrder_nil #[σ,H,I,h]
def zPE{es:L Expr}(h1:PG X e t)(h2:iV X es u)(hs:(N3 (e::es) X.env).map (·.2)=bj e X.env::(N3 es X.env).map (·.2)):iV X (e::es) (FZ t u):=by
 intro pins s σ H vs us Q I r h;obtain⟨v,U,e1,h⟩:=h;subst e1
 cases r with
 |cons r z=>
  rw[hs];refine assignInOrder_cons (iD (h1 _ s σ H _ _ _ I r h) λ_ s1 zz=>?_);obtain⟨O,H1,I1,q1⟩:=zz;show h2 _ s1 _ H1 _ _ Q I1 z q1
def Hm(K:Fg)(n:Nat)(t:lV):=(λv σ H Q=>∃a xs,v=.ref a/\HI K H a xs/\xs.length=n/\t xs σ H Q:TG)
def zV8(hc:X.calm=true)(h:iV X es t)(hn:(N3 es X.env).length=n)(O:(N3 es X.env).findIdx? (·.1)=none):PG X (.Tuple es k pos) (Hm X.K n t):=by
 intro pins s σ H v u Q I r hw;obtain⟨a,xs,e1,hq,hl,hw⟩:=hw;subst e1;cases r;obtain⟨its,J,z,hz⟩:=I.tuple hq;refine assign_Tuple_tuple (I.ok.hd hc) z (by simp[hn,<- hl,J.length]) O λh' hx=>?_
 have I1:=I.kept (t':=s.toks) λb o e=>hx b o (GA<|CA e) e
 show h _ _ σ H xs _ Q I1 (by simp_all) hw
def Hk(to ti:TE)(t:mV):=(λv σ H Q=>to σ H λo H1=>ti σ H1 λi H2=>t o i v H2 λH3=>Q σ H3:TG)
def Rp{o i:Expr}{to O:TE}{t:mV}(ho:PE X o to)(hi:PE X i O)(hs:hZ X t)
  (ha:∀v,bj (.Subscript o i pos) X.env v=(do
   let z <- K8 [v] (eval o X.env)
   let J <- K8 [v,z] (eval i X.env)
   T9 pos
   K8 [v,z,J] (fg z J v)
   VY [v,z,J] [])):PG X (.Subscript o i pos) (Hk to O t):=by
 intro pins s σ H v u Q I r h;rw[ha];refine Ee (K3<|iD (ho _ s σ H _ I h) λz s1 zz=>?_);let(x,H1,I1,r1,q1):=zz;refine Ee (K3<|iD (hi _ s1 σ H1 _ I1 q1) λJ s2 zz=>?_);let(y,H2,I2,r2,q2):=zz;refine Ee (fx<|Ee<|K3<|iD (hs _ s2 σ H2 x y v z J u _ I2 r1 r2 r q2) λ_ s3 zz=>?_);let(U,Y,q3):=zz;show wpAny_release #[σ,U,Y,q3]
def o5(te:TE)(g:TG):=(λD σ H=>te σ H λx H1=>g x σ H1 D.nx:TS)
def Eb{tg e:Expr}{te:TE}{g:TG}(he:PE X e te)(z:PG X tg g)(hs:lH [tg] e pos.line X.env=pure false)(hw:kH [tg] e X.env=pure none)
  (h1:(N3 [tg] X.env).map (·.2)=[bj tg X.env]):PS X (.Assign [tg] e pos) (o5 te g):=by
 intro pins s σ H D I h;refine wpAny_Assign_stores (iD (he _ s σ H _ I h) λv s1 J=>?_) hs hw;let(x,H1,I1,r1,q1):=J;rw[h1];show iD (z _ s1 σ H1 x v _ I1 r1 q1) λ_ s2 q=>q
def GQ{i:Nat}{x:Str}(z:X.N.Nodup)(hi:X.N[i]?>x)(hx:Loc X.env.scope x)(he:PE X e te)(hs:dF e (some<|.Name x pos') pos.line X.env=pure false)(hf:X.fn x=true\/X.env.scope.names.lookup x>.local):
  PS X (.Assign [.Name x pos'] e pos) (o5 te<|zV7 i):=by
 intro pins s σ H D I h;refine wpAny_Assign_Name (iD (he _ s σ H _ I h) λv s1 J=>?_) hs;let(y,H1,I1,r1,q1):=J;show Cf I1 z hi hx r1 (λs2 I2=>#[_,H1,I2,q1]) hf
end
section
variable {X:Cx}{pos:Pos}
noncomputable def zV9(c:TT)(tb:TS):TS:=λD σ H=>∃W:Nat->St->Hp->Prop,(∃m,W m σ H)/\∀m σ H,W m σ H ->
 c σ H λb H1=>if b=true then ∃N:St->Hp->Prop,(∀ZC H',N ZC H'->∃m',m'<m/\W m' ZC H')/\tb { D with nx:=N,ct:=N,bk:=D.nx } σ H1 else D.nx σ H1
def zJi{body:L Stmt}(hp:dh (F4 X.prog X.w) X.A X.env X.xe)(hc:PT X c tc)(hb:oK X body tb):PS X (.While c body [] pos) (zV9 tc tb):=by
 intro pins s σ H D I h;let(W,(m0,w0),turn):=h;refine wpAny_While (codeAny_whileLoop (λn s'=>∃ZC H',Inv X _ ZC H' s'/\W n ZC H') ?_ m0 #[σ,H,I,w0]);rintro n s1 ⟨J8,H1,I1,w1⟩;refine iE hp (iD (hc _ s1 _ H1 _ I1<|turn n _ H1 w1) λb s2 zz=>?_);let(H2,I2,O):=zz
 cases b with
 |true=>
  let(N,hN,O):=O;refine iE hp (iD (hb _ s2 _ H2 _ I2 O) λf s3 U=>?_)
  cases f with
  |next=>
   let(bT,z,Y,n3):=U;let(m',hm,w3):=hN _ z n3
   show#[m',hm,bT,z,Y,w3]
  |cont=>
   let(bT,z,Y,n3):=U;let(m',hm,w3):=hN _ z n3
   show#[m',hm,bT,z,Y,w3]
  |brk=>show U
  |ret v=>show U
 |false=>
  show ah #[J8,H2,I2,O]
end
structure It where
 go:Nat->Hp->Prop
 yld:Nat->Hp->V->Hp->Prop
 stop:Nat->Hp->Prop
noncomputable def EH(X:Cx)(pins:IE)(H:Hp)(b:Addr):Prop:=
 H b=none/\b≠X.env.locals/\b∉X.fs/\(b∈X.ex\/X.s₀.heap.objs.size<=b)/\(∀x c,X.env.cells.lookup x>c->c≠b)/\∀p∈X.pn++pins,p.1≠b
def Inv.fpOk{s:F2}(I:Inv X pins σ H s)(hb:s.heap.objs.size<=b)(hn:H' b=none):EH X pins H' b:=by
 refine#[hn,ZE<|BA I.lt hb,I.nofs hb,.inr<|JA I.sz hb,λx c e z=>?_,λp hp z=>?_]
 .let(v,q):=I.cell x c e;show absurd (BA q.lt<|by simp_all)<|RC _
 .show absurd (BA (CA (I.pin p hp).1)<|by simp_all)<|RC _
structure VS(P:F6)(w:F9)(K:Fg)(tg:Expr)(J:It)(fp:List Addr)(it:Addr)(tn:Nat->Heap->Prop):Prop where
 mem:it∈fp
 obj:∀i h,tn i h->∀b∈fp,∃o,h.get? b>o/\∀v,o.data≠.cell v
 keep:∀i h h',tn i h->(∀b∈fp,∀o,h.get? b>o->h'.get? b>o)->tn i h'
 item:∀(X:Cx),X.prog=P->X.w=w->X.K=K->X.calm=true->∀(i:Nat)(pins:IE)(s:F2)(σ:St)(H:Hp)(E:jD),Inv X pins σ H s->(∀b∈fp,EH X pins H b)->tn i s.heap->J.go i H ->
  F5 (F4 P w) X.A (az<|.ref it) (λr s1=>∃u,r>u /\
   F5 (F4 P w) X.A (fc tg (.ref it) u) (λ_ s2=>∃x H',Inv X pins σ H' s2/\z9 x u/\J.yld i H x H'/\tn (i+1) s2.heap/\∀b∈fp,H' b=none) E s1) E s
 done:∀(X:Cx),X.prog=P->X.w=w->X.K=K->X.calm=true->∀(i:Nat)(pins:IE)(s:F2)(σ:St)(H:Hp)(E:jD),Inv X pins σ H s->(∀b∈fp,EH X pins H b)->tn i s.heap->J.stop i H ->
  F5 (F4 P w) X.A (az<|.ref it) (λr s1=>r=none/\Inv X pins σ H s1) E s
 self:∀(A:F8)(i:Nat)(s:F2)(Q:jD)(E:jD),tn i s.heap->Q (.ref it) s->F5 (F4 P w) A (dq<|.ref it) Q E s
abbrev TI:=St->Hp->(It->Hp->Prop)->Prop
noncomputable def Vf(X:Cx)(pins:IE)(σ:St)(tg:Expr)(R:It->Hp->Prop)(P1:F3)(s2:F2):Prop:=
 ∃(it:Addr)(fp:L Addr)(tn:Nat->Heap->Prop)(J:It)(H':Hp),P1=.ref it/\Inv X pins σ H' s2/\VS X.prog X.w X.K tg J fp it tn/\tn 0 s2.heap/\(∀b∈fp,EH X pins H' b)/\R J H'
noncomputable def PI(X:Cx)(tg iter:Expr)(wi:TI):Prop:=
 ∀(pins:IE)(s:F2)(σ:St)(H:Hp)(R:It->Hp->Prop),Inv X pins σ H s->wi σ H R ->
  F5 (F4 X.prog X.w) X.A (eval iter X.env) (λv s1=>F5 (F4 X.prog X.w) X.A (dq v) (Vf X pins σ tg R) X.xe s1) X.xe s
def U7{E:jD}{s:F2}{o:Obj}{Q:Unit->F2->Prop}(z:s.heap.get? it>o)(hc:o.cls=.type n)(hd:o.data=.fields vs)(hn : ["enumerate","zip","dict_itemiterator","dict_reverseitemiterator","odict_iterator","itertools.zip_longest","itertools.pairwise"].contains n=false)(hQ:Q () s):F5 M A (fc tg (.ref it) u) Q E s:=by
 cases tg<;>first
  |show F1 hQ
  |(cases u<;>first
    |show F1 hQ
    |(refine Ee (fh z ?_)
      rw[hc,hd];change F5 M A (if (["enumerate","zip","dict_itemiterator","dict_reverseitemiterator","odict_iterator","itertools.zip_longest","itertools.pairwise"].contains n&&vs[0]? == some _)=true then _ else _) Q E s;rw[if_neg (by intro h;rw[hn]at h;cases h)];show F1 hQ))
noncomputable def Gj(K:Fg)(a:Addr):It:=
 #[λi H=>∃xs x,vF K H a xs/\xs[i]?>x,λi H x H'=>H'=H/\∀xs,vF K H a xs->xs[i]?>x,λi H=>∃xs,vF K H a xs/\xs.length<=i]
noncomputable def Gk(K:Fg)(a:Addr):It:=
 #[λi H=>∃xs x,HI K H a xs/\xs[i]?>x,λi H x H'=>H'=H/\∀xs,HI K H a xs->xs[i]?>x,λi H=>∃xs,HI K H a xs/\xs.length<=i]
noncomputable def bZ(lo:Int)(n:Nat):It:=#[λi _=>i<n,λi H x H'=>H'=H/\x=.int (lo+i),λi _=>n<=i]
theorem zMD{P:F6}{w:F9}{K:Fg}{tg:Expr}(a it:Addr):VS P w K tg (Gj K a) [it] it (λi h=>h.IsListIter it a i) where
 mem:=by simp
 obj:=λi h st b hb=>by
  have e:=‹hb›
  subst e;let(o,e,c,d):=st;show#[o,e,λv z=>by rw[d]at z;cases z]
 keep:=λi h h' st k=>st.at λo e=>k it (by simp) o e
 item:=by
  intro X hP hw hK hc i pins s σ H E I hf st hg;subst hP hw hK;let(xs,x,hq,hx):=hg;let(its,rv,p,hz):=I.list hq;let(u,hu,ru):=rv.get hx;let(J,O,f2,Y,f4,f5):=hf it (by simp);refine wpAny_pyNext_list_item st p.isList ‹hu› λh' AC sb=>?_
  have I1:=I.turned (t':=s.toks) (λb o hb e=>(sb.2 b hb).trans e) J O Y f4 f5;let(o,e,c,d):=id AC;show#[u,rfl,U7 e c d 02 #[x,H,I1,ru,#[rfl,λys hy=>by rw[I.list_inj hy hq];show hx],AC,λb hb=>(hf b hb).1]]
 done:=by
  intro X hP hw hK hc i pins s σ H E I hf st hg;subst hP hw hK;let(xs,hq,hx):=hg;let(its,rv,p,hz):=I.list hq;let(J,O,f2,Y,f4,f5):=hf it (by simp);have hl:=rv.length;show wpAny_pyNext_list_end (I.ok.hd hc) st p.isList (by simp;omega) λh' eb=>#[rfl,I.turned (λb o hb e=>eb b o hb e) J O Y f4 f5]
 self:=λ_ _ _ _ _ st h=>wpAny_pyIter_listiter st h
theorem zK5{P:F6}{w:F9}{K:Fg}{tg:Expr}(a it:Addr):VS P w K tg (Gk K a) [it] it (λi h=>h.IsTupleIter it a i) where
 mem:=by simp
 obj:=λi h st b hb=>by
  have e:=‹hb›
  subst e;let(o,e,c,d):=st;show#[o,e,λv z=>by rw[d]at z;cases z]
 keep:=λi h h' st k=>st.at λo e=>k it (by simp) o e
 item:=by
  intro X hP hw hK hc i pins s σ H E I hf st hg;subst hP hw hK;let(xs,x,hq,hx):=hg;let(its,rv,p,hz):=I.tuple hq;let(u,hu,ru):=rv.get hx;let(J,O,f2,Y,f4,f5):=hf it (by simp);refine fz st (p) ‹hu› λh' AC sb=>?_
  have I1:=I.turned (t':=s.toks) (λb o hb e=>(sb.2 b hb).trans e) J O Y f4 f5;let(o,e,c,d):=id AC;show#[u,rfl,U7 e c d 02 #[x,H,I1,ru,#[rfl,λys hy=>by rw[I.tuple_inj hy hq];show hx],AC,λb hb=>(hf b hb).1]]
 done:=by
  intro X hP hw hK hc i pins s σ H E I hf st hg;subst hP hw hK;let(xs,hq,hx):=hg;let(its,rv,p,hz):=I.tuple hq;let(J,O,f2,Y,f4,f5):=hf it (by simp);have hl:=rv.length;show wpAny_pyNext_tuple_end (I.ok.hd hc) st (p) (by simp;omega) λh' eb=>#[rfl,I.turned (λb o hb e=>eb b o hb e) J O Y f4 f5]
 self:=λ_ _ _ _ _ st h=>wpAny_pyIter_tupleiter st h
theorem zK6{P:F6}{w:F9}{K:Fg}{tg:Expr}(it:Addr)(lo:Int)(n:Nat):VS P w K tg (bZ lo n) [it] it (λi h=>IsRangeIter h it (lo+(i:Nat)*1) ((n:Int)-(i:Nat)) 1) where
 mem:=by simp
 obj:=λi h st b hb=>by
  have e:=‹hb›
  subst e
  show#[_,st,λv z=>by
   have z':=z;cases z']
 keep:=λi h h' st k=>k it (by simp) _ st
 item:=by
  intro X hP hw hK hc i pins s σ H E I hf st hg;subst hP hw hK;let(J,O,f2,Y,f4,f5):=hf it (by simp);have W:=Walks.range (prog:=X.prog) (w:=X.w) (I.ok.hd hc) it lo 1 n;refine W.item i s _ _ hg st λv h' tk hv AC kk=>?_
  let(t,rfl):=hv;have I1:Inv X _ σ H { s with heap:=h',toks:=tk }:=I.turned (λb o hb e=>kk b o ‹hb› e) J O Y f4 f5;refine#[_,rfl,U7 AC rfl rfl 02 #[.int _,H,I1,#[t,?_],#[rfl,rfl],AC,λb hb=>(hf b hb).1]];rw[Int.mul_one]
 done:=by
  intro X hP hw hK hc i pins s σ H E I hf st hg;let(J,O,f2,Y,f4,f5):=hf it (by simp);show wpAny_pyNext_range_end (I.ok.hd hc) st (by have:n<=i:=hg;omega) λh' eb=>#[rfl,I.turned (λb o hb e=>eb b o hb e) J O Y f4 f5]
 self:=λ_ _ _ _ _ st h=>wpAny_pyIter_rangeiter st h
end L2
namespace L2
open PySem PySem.Spec PyProof.Rows
section
variable {X:Cx}{tg:Expr}
def B1(K:Fg)(tl:TE):=(λσ H R=>tl σ H λx H1=>∃a,x=.ref a/\(∃xs,vF K H1 a xs)/\R (Gj K a) H1:TI)
def Jn(K:Fg)(tl:TE):=(λσ H R=>tl σ H λx H1=>∃a,x=.ref a/\(∃xs,HI K H1 a xs)/\R (Gk K a) H1:TI)
def zSd{l:Expr}{tl:TE}(hl:PE X l tl):PI X tg l (B1 X.K tl):=by
 intro pins s σ H R I h;refine iD (hl _ s σ H _ I h) λv s1 zz=>?_
 let(x,H1,I1,r1,q1):=zz;let(a,e,(xs,hq),q):=q1;subst e;cases r1;let(its,z,p,hz):=I1.list hq;refine YK p.isList ?_;refine#[s1.heap.objs.size,[s1.heap.objs.size],_,_,H1,rfl,I1.kept λb o e=>jA _ e,zMD a _,#[_,rA _ rfl,rfl,rfl],λb hb=>?_,q];have e:=‹hb›
 subst e;show I1.fpOk (wA _)<|I1.hok.fresh<|wA _
def zWA{l:Expr}{tl:TE}(hl:PE X l tl):PI X tg l (Jn X.K tl):=by
 intro pins s σ H R I h;refine iD (hl _ s σ H _ I h) λv s1 zz=>?_
 let(x,H1,I1,r1,q1):=zz;let(a,e,(xs,hq),q):=q1;subst e;cases r1;let(its,z,p,hz):=I1.tuple hq;refine wpAny_pyIter_tuple (p) ?_;refine#[s1.heap.objs.size,[s1.heap.objs.size],_,_,H1,rfl,I1.kept λb o e=>jA _ e,zK5 a _,#[_,rA _ rfl,rfl,rfl],λb hb=>?_,q];have e:=‹hb›
 subst e;show I1.fpOk (wA _)<|I1.hok.fresh<|wA _
def zJj{pins:IE}{s:F2}{R:It->Hp->Prop}{E:jD}{lo hi:Int}{t u v:Tok}{tk:Nat}(I:Inv X pins σ H s)(h1 : -(2 ^ 62)<=lo)(h2:lo<2 ^ 62)(h3 : -(2 ^ 62)<=hi)(J:hi<2 ^ 62)(q:R (bZ lo (hi-lo).toNat) H):F5 (F4 X.prog X.w) X.A (dq<|.ref s.heap.objs.size) (Vf X pins σ tg R) E { s with heap:=s.heap.push { cls:=.type "range",data:=.fields (List.toArray [.int lo t,.int hi u,.int 1 v]) },toks:=tk }:=by
 refine wpAny_pyIter_range (IsRange.new ..) (small_one h1 h2 h3 J) ?_;have I1:Inv X _ σ H { s with heap:=s.heap.push { cls:=.type "range",data:=.fields (List.toArray [.int lo t,.int hi u,.int 1 v]) },toks:=tk }:=I.kept λb o e=>jA _ e
 refine#[(s.heap.push _).objs.size,[(s.heap.push _).objs.size],_,_,H,rfl,
  I1.kept λb o e=>jA _ e,zK6 _ lo _,?_,λb hb=>?_,q]
 .have e1:lo+(0:Nat)*1=lo:=by simp
  have z:((hi-lo).toNat:Nat)-(0:Nat)=L8 lo hi 1:=by rw[rangeSize_one];grind
  rw[e1,z];show rA _ rfl
 .have e:b=(s.heap.push { cls:=.type "range",data:=.fields (List.toArray [.int lo t,.int hi u,.int 1 v]) }).objs.size:=‹hb›
  subst e;show I1.fpOk (wA _)<|I1.hok.fresh<|wA _
def D1(ta:TA):=(λσ H R=>ta σ H λvs H1=>∃j:Int,vs=[.int j]/\-(2 ^ 62)<=j/\j<2 ^ 62/\R (bZ 0 j.toNat) H1:TI)
def E1(ta:TA):=(λσ H R=>ta σ H λvs H1=>∃i j:Int,vs=[.int i,.int j]/\(-(2 ^ 62)<=i/\i<2 ^ 62/\-(2 ^ 62)<=j/\j<2 ^ 62)/\R (bZ i (j-i).toNat) H1:TI)
def zME(z:Gl X "range")(hm:X.mg "range" = none)(ha:PA X [a] ta)(hs:F7 [a] X.env=[(false,eval a X.env)]):PI X tg (.Call (.Name "range" p) [a] [] pos) (D1 ta):=by
 intro pins s σ H R I h;refine Call_ (gY I z hm boot_range<|PyProof.Rows.callWith_type1 (iD (ha _ _ s σ H _ I h) λus s1 O=>?_) hs rfl);obtain⟨vs,H1,I1,r1,q1⟩:=O;obtain⟨j,e,q1,J,q⟩:=q1;subst e
 cases r1 with
 |cons r U=>
  cases U;obtain⟨t,rfl⟩:=r;show call_range_1 (zJj I1 01 01 q1 J<|by simpa using q)
def zMF(O:Gl X "range")(hm:X.mg "range" = none)(ha:PA X [a,b] ta)(hs:F7 [a,b] X.env=[(false,eval a X.env),(false,eval b X.env)])(J:F7 [b] X.env=[(false,eval b X.env)]):
  PI X tg (.Call (.Name "range" p) [a,b] [] pos) (E1 ta):=by
 intro pins s σ H R I h;refine Call_ (gY I O hm boot_range<|PyProof.Rows.callWith_type1 (iD (ha _ _ s σ H _ I h) λus s1 q9=>?_) (by simp_all) (by rw[J];rfl));obtain⟨vs,H1,I1,r1,q1⟩:=q9;obtain⟨i,j,e,⟨q1,U,Y,q4⟩,q⟩:=q1;subst e
 cases r1 with
 |cons r z=>
  cases z with
  |cons r' z=>
   cases z;obtain⟨t,rfl⟩:=r;obtain⟨t',rfl⟩:=r';show call_range_2<|zJj I1 q1 U Y q4 q
noncomputable def Lm(wi:TI)(g:TG)(tb:TS):TS:=λD σ H=>wi σ H λJ H1=>∃W:Nat->Nat->St->Hp->Prop,(∃m,W 0 m σ H1)/\∀i m σ H,W i m σ H ->
 (J.stop i H/\D.nx σ H)\/(J.go i H/\∃N:St->Hp->Prop,(∀ZC H',N ZC H'->∃m',m'<m/\W (i+1) m' ZC H')/\∀x H',J.yld i H x H'->g x σ H' λFv H2=>tb { D with nx:=N,ct:=N,bk:=D.nx } Fv H2)
noncomputable def Ec(fp:L Addr)(h:Heap):IE:=fp.filterMap λb=>(h.get? b).map λo=>(b,o)
def Bm{h:Heap}(hb:b∈fp)(e:h.get? b>o):(b,o)∈Ec fp h:=aB.mpr #[b,hb,by rw[e];rfl]
def zMG{h:Heap}{p:Addr×Obj}(hp:p∈Ec fp h):p.1∈fp/\h.get? p.1>p.2:=by
 let(b,hb,e):=aB.mp hp
 cases q:h.get? b with
 |none=>simp_all
 |some o=>
  rw[q]at e;have e':=KB e;subst e';show#[hb,q]
def Inv.pinned{s:F2}(I:Inv X pins σ H s)(hf:∀b∈fp,EH X pins H b)(J:∀b∈fp,∃o,s.heap.get? b>o/\∀v,o.data≠.cell v):Inv X (pins++Ec fp s.heap) σ H s:=
 I.pins_of λp hp=>(pA.mp hp).elim (λz=>I.pin p<|RA _ z) λz=>by
  let(hb,e):=zMG z;let(O,U,Y,_):=hf _ hb;let(o,e',d):=J _ hb
  simp_all
def Inv.unpinned(I:Inv X (pins++pl) σ H s):Inv X pins σ H s:=I.pins_of λp hp=>I.pin p<|RA _<|HB _ hp
def zWB(hp:dh (F4 X.prog X.w) X.A X.env X.xe)(hc:X.calm=true)(hi:PI X tg iter wi)(hg:PG X tg g)(hb:oK X body tb)(hs:∀x,IC iter X.env x=pure x):PS X (.For tg iter body [] pos) (Lm wi g tb):=by
 intro pins s σ H D I h;refine wpAny_For (iD (hi pins s σ H _ I h) λv s1 h1=>iD h1 λP1 s2 h2=>?_) hs;let(it,fp,tn,J,H2,e,I2,T,ZH,f2,W,(m0,w0),turn):=h2;subst e
 -- Md stays true of the iterator's objects through the loop
 have GN:∀{H':Hp},(∀b∈fp,H' b=none)->∀b∈fp,EH X pins H' b:=λhn b hb=>#[hn b hb,(f2 b hb).2]
 refine codeAny_forLoop_any (λn s'=>∃i ZC H',Inv X pins ZC H' s'/\tn i s'.heap/\(∀b∈fp,H' b=none)/\W i n ZC H') ?_ m0 #[0,σ,H2,I2,ZH,λb hb=>(f2 b hb).1,w0];rintro n s3 ⟨i,bT,H3,I3,DP,Vs,w3⟩;rcases turn i n bT H3 w3 with⟨stop,qn⟩|⟨go,N,hN,step⟩
 .refine iE hp (iD (T.done X rfl rfl rfl hc i pins s3 bT H3 X.xe I3 (GN Vs) DP stop) λr s4 zz=>?_);let(hr,I4):=zz;subst hr;show ah #[bT,H3,I4,qn]
 .refine iE hp (iD (T.item X rfl rfl rfl hc i pins s3 bT H3 X.xe I3 (GN Vs) DP go) λr s4 zz=>?_);let(u,hr,h4):=zz;subst hr;refine iE hp (iD h4 λ_ s5 zz=>?_);let(x,H5,I5,r5,y5,cM,p9):=zz;have I5':=I5.pinned (GN p9)<|T.obj _ _ cM;refine iE hp (iD (hg _ s5 bT H5 x u _ I5' r5<|step x H5 y5) λ_ s6 zz=>?_);let(σ6,H6,I6,q6):=zz;refine iE hp (iD (hb _ s6 σ6 H6 _ I6 q6) λf s7 Y=>?_)
  have again:∀{U:St}{z:Hp},Inv X _ U z s7->N U z->∃m,m<n/\∃i ZC H',Inv X pins ZC H' s7/\tn i s7.heap/\(∀b∈fp,H' b=none)/\W i m ZC H':=λ{U z} O n7=>by
   let(m',hm,w7):=hN U z n7;refine#[m',hm,i+1,U,z,O.unpinned,T.keep _ _ _ cM λb hb o e=>(O.pin (b,o)<|RA _<|RA _<|Bm hb e).1,λb hb=>?_,w7];let(o,e,d):=T.obj _ _ cM b hb;show(O.pin (b,o)<|RA _<|RA _<|Bm hb e).2.1
  cases f with
  |next=>let(U,z,O,n7):=Y;show again O n7
  |cont=>let(U,z,O,n7):=Y;show again O n7
  |brk=>let(U,z,O,Y):=Y;show#[U,z,O.unpinned,Y]
  |ret v=>let(x7,U,z,O,r7,Y):=Y;show#[x7,U,z,O.unpinned,r7,Y]
end
end L2
namespace L2
open PySem PySem.Spec PyProof.Rows
abbrev R2:=V->V->Hp->VK->Prop
noncomputable def UH(X:Cx)(f:F3->F3->Sem F3)(r:R2):Prop:=
 ∀(pins:IE)(s:F2)(σ:St)(H:Hp)(x y:V)(v u:F3)(Q:VK),Inv X pins σ H s->z9 x v->z9 y u->r x y H Q ->
  F5 (F4 X.prog X.w) X.A (f v u) (EP X pins σ Q) X.xe s
noncomputable def Gp(X:Cx)(f:F3->Sem F3)(r:V->Hp->VK->Prop):Prop:=
 ∀(pins:IE)(s:F2)(σ:St)(H:Hp)(x:V)(v:F3)(Q:VK),Inv X pins σ H s->z9 x v->r x H Q ->
  F5 (F4 X.prog X.w) X.A (f v) (EP X pins σ Q) X.xe s
noncomputable def sJ(X:Cx)(f:F3)(r:L V->Hp->VK->Prop):Prop:=
 ∀(pins:IE)(s:F2)(σ:St)(H:Hp)(xs:L V)(us:L F3)(Q:VK),Inv X pins σ H s->zl xs us->r xs H Q ->
  F5 (F4 X.prog X.w) X.A (call f us) (EP X pins σ Q) X.xe s
noncomputable def Gn(X:Cx)(r:V->Hp->(Bool->Hp->Prop)->Prop):Prop:=
 ∀(pins:IE)(s:F2)(σ:St)(H:Hp)(x:V)(v:F3)(Q:Bool->Hp->Prop),Inv X pins σ H s->z9 x v->r x H Q ->
  F5 (F4 X.prog X.w) X.A (truthy v) (TP X pins σ Q) X.xe s
def pW(r:R2)(ta tb:TE):=(λσ H Q=>ta σ H λx H1=>tb σ H1 λy H2=>r x y H2 Q:TE)
def tUn(r:V->Hp->VK->Prop)(ta:TE):=(λσ H Q=>ta σ H λx H1=>r x H1 Q:TE)
def rI(C:Int->Int->Prop)(g:Int->Int->V):=(λx y H Q=>∃i j,x=.int i/\y=.int j/\C i j/\Q (g i j) H:R2)
def Xh(g:Int->Int->V):=(λx y H Q=>∃i j,x=.int i/\y=.int j/\Q (g i j) H:R2)
def rU(g:Int->V):=(λx H Q=>∃i,x=.int i/\Q (g i) H:V->Hp->VK->Prop)
section
variable {X:Cx}{a b c:Expr}{ta tb tc:TE}{pos:Pos}
def tV(ha:PE X a ta)(hb:PE X b tb){R:V->V->Hp->Prop}(I:Inv X pins σ H s)(h:ta σ H λx H1=>tb σ H1 λy H2=>R x y H2){Q:jD}{f:F3->F3->Sem F3}(hf:∀v u s2 x y H2,Inv X pins σ H2 s2->z9 x v->z9 y u->R x y H2->F5 (F4 X.prog X.w) X.A (f v u) Q X.xe s2):
  F5 (F4 X.prog X.w) X.A (eval a X.env) (λv J=>F5 (F4 X.prog X.w) X.A (eval b X.env) (λu O=>F5 (F4 X.prog X.w) X.A (f v u) Q X.xe O) X.xe J) X.xe s:=by
 refine iD (ha _ s σ H _ I h) λv s1 zz=>?_
 let(x,H1,I1,r1,q1):=zz;refine iD (hb _ s1 σ H1 _ I1 q1) λu s2 zz=>?_
 let(y,H2,I2,r2,U):=zz;show hf v u s2 x y H2 I2 r1 r2 U
def zWC(z:UH X (N8 op) r)(ha:PE X a ta)(hb:PE X b tb):PE X (.BinOp a op b pos) (pW r ta tb):=by
 intro pins s σ H Q I h;show wpAny_BinOp (tV ha hb I h λv u s2 x y H2 I2 J O q=>z _ s2 σ H2 x y v u Q I2 J O q)
def W2{r:V->Hp->VK->Prop}(z:Gp X (unaryOp op) r)(ha:PE X a ta):PE X (.UnaryOp op a pos) (tUn r ta):=by
 intro pins s σ H Q I h;show Uu (iD (ha _ s σ H _ I h) λv s1 ⟨x,H1,I1,r1,q1⟩=>z _ s1 σ H1 x v Q I1 r1 q1)
def Kg{f:F3->F3->Sem F3}{C:Int->Int->Prop}{g:Int->Int->Int}
  (rule:∀(i j:Int)(t u:Tok)(s:F2)(Q:jD)(E:jD),C i j->Q (.int (g i j) s.toks) { s with toks:=s.toks+1 }->F5 (F4 X.prog X.w) X.A (f (.int i t)<|.int j u) Q E s) :
  UH X f (rI C λi j=>.int<|g i j):=by
 intro pins s σ H x y v u Q I z J h;let(i,j,rfl,rfl,hc,q):=h;let(t,rfl):=z;let(t',rfl):=J;show rule i j t t' s _ _ hc #[.int _,H,I.tok _,#[_,rfl],q]
def Kh{f:F3->F3->Sem F3}{g:Int->Int->Int}
  (rule:∀(i j:Int)(t u:Tok)(s:F2)(Q:jD)(E:jD),Q (.int (g i j) s.toks) { s with toks:=s.toks+1 }->F5 (F4 X.prog X.w) X.A (f (.int i t)<|.int j u) Q E s) :
  UH X f (Xh λi j=>.int<|g i j):=by
 intro pins s σ H x y v u Q I z J h;let(i,j,rfl,rfl,q):=h;let(t,rfl):=z;let(t',rfl):=J;show rule i j t t' s _ _ #[.int _,H,I.tok _,#[_,rfl],q]
def Gg(i j:Int):=(0<j/\j<1073741824:Prop)
def ZU(i j:Int):=((-(2 ^ 64)<i/\i<2 ^ 64)\/(-(2 ^ 64)<j/\j<2 ^ 64):Prop)
def ZU.ok(h:ZU i j):IntMulOk i j:=by
 rcases h with⟨h1,h2⟩|⟨h1,h2⟩
 .show .of_left<|intBits_le_64 h1 h2
 .show .of_right<|intBits_le_64 h1 h2
def zWD:UH X (N8 .Sub) (Xh λi j=>.int<|i-j):=Kh λ_ _ _ _ _ _ _ q=>sub_int q
def zWE:UH X (N8 .Mult) (rI ZU λi j=>.int<|i*j):=Kg λ_ _ _ _ _ _ _ hc q=>mul_int q hc.ok
def zSe:UH X (N8 .FloorDiv) (rI Gg λi j=>.int<|i/j):=Kg λi j _ _ _ _ _ hc q=>by
 have h1:=hc.1;have h2:=hc.2;show floordiv_int 01 (by rw[Int.fdiv_eq_ediv_of_nonneg i<|01];show q) (.inl<|PyProof.noPylong_small<|01)
def zWF:UH X (N8 .Mod) (rI (λ_ j=>0<j) λi j=>.int<|i%j):=Kg λi j _ _ _ _ _ hc q=>by
 show mod_int' 01 (by rw[Int.fmod_eq_emod_of_nonneg i<|01];show q)
def unI{f:F3->Sem F3}{g:Int->Int}
  (rule:∀(i:Int)(t:Tok)(s:F2)(Q:jD)(E:jD),Q (.int (g i) s.toks) { s with toks:=s.toks+1 }->F5 (F4 X.prog X.w) X.A (f<|.int i t) Q E s) :
  Gp X f (rU λi=>.int<|g i):=by
 intro pins s σ H x v Q I z h;let(i,rfl,q):=h;let(t,rfl):=z;show rule i t s _ _ #[.int _,H,I.tok _,#[_,rfl],q]
def zWG:Gp X (unaryOp .USub) (rU λi=>.int (-i)):=unI λ_ _ _ _ _ q=>neg_int q
end
section
variable {X:Cx}{a b c:Expr}{ta tb tc:TE}{pos:Pos}
def HP(I:Inv X pins σ H s)(q:Q (.bl k) H)(e:k=k'):EP X pins σ Q (.bool k') s:=by
 subst e;show#[.bl k,H,I,rfl,q]
def zWH:UH X (N1 .Is) (λx y H Q=>y=.non/\Q (.bl<|decide<|x=.non) H):=by
 intro pins s σ H x y v u Q I z J h;let(rfl,q):=h;cases J;refine is_none_gen<|HP I q ?_
 cases x<;>first
  |(rfl)
  |(obtain⟨t,rfl⟩:=z;rfl)
noncomputable def isObj:HO->Bool
 |.lst _=>true
 |.ins _ _ _=>true
 |_=>false
def zMH(z:UH X (N1 op) r)(ha:PE X a ta)(hb:PE X b tb)(hm:QB op b=false):PE X (.Compare a [op] [b] pos) (pW r ta tb):=by
 intro pins s σ H Q I h;show Va (tV ha hb I h λv u s2 x y H2 I2 J O q=>z _ s2 σ H2 x y v u Q I2 J O q) hm
def O5(t:TE):=(λσ H Q=>t σ H λx H'=>∃k,x=.bl k/\Q k H':TT)
def Dl(Y:UH X (N1 op) r)(ha:PE X a ta)(hb:PE X b tb)(hm:QB op b=false):PT X (.Compare a [op] [b] pos) (O5<|pW r ta tb):=by
 intro pins s σ H Q I h
 refine QR (iD (ha _ s σ H _ I h) λv s1 ⟨x,H1,I1,r1,q1⟩=>iD (hb _ s1 σ H1 _ I1 q1) λu s2 ⟨y,H2,I2,r2,q2⟩=>
  iD (Y _ s2 σ H2 x y v u _ I2 r1 r2 q2) λc s3 ⟨z,J,U,r3,k,e,q3⟩=>?_) hm
 subst e;cases r3;show N6 #[J,U,q3]
noncomputable def mZ(K:Fg)(x:V)(H:Hp)(k:Bool):Prop:=
 match x with
 |.non=>k=false
 |.bl b=>k=b
 |.int i=>k=(i != 0)
 |.str y=>y.length<=sizeLine/\k=((y.length:Int) != 0)
 |.byt y=>y.size<=sizeLine/\k=((y.size:Int) != 0)
 |.ref p=>(∃xs,vF K H p xs/\k = !xs.isEmpty)\/(∃xs,HI K H p xs/\k = !xs.isEmpty)\/∃kvs,H p>.dK kvs/\k = !kvs.isEmpty
 |_=>False
def zK7{κ:Type}{kvs:L (κ×V)}{vs:L (κ×F3)}(r:KV kvs vs):(!vs.isEmpty) = !kvs.isEmpty:=by
 cases r<;>rfl
def jm{xs:L V}{its:L F3}(r:zl xs its):(!its.toArray.isEmpty) = !xs.isEmpty:=by
 cases r<;>simp
def IW:(sizeLine:Nat)<2 ^ 63:=02
def zRg:Gn X (λx H Q=>∃k,mZ X.K x H k/\Q k H):=by
 intro pins s σ H x v Q I J h;let(k,e,q):=h;have hl:=IW;have hs:sizeLine=16777216:=K7
 cases x with
 |non=>
  cases J;have e':k=false:=e;subst e'
  show truthy_none #[H,I,q]
 |bl b=>
  cases J;have e':k=b:=e;subst e'
  show N6 #[H,I,q]
 |int i=>
  let(t,rfl):=J;have e':k=(i != 0):=e;subst e'
  show PySem.P.truthy_int #[H,I,q]
 |str y=>
  let(t,rfl):=J;obtain⟨hy,e'⟩:y.length<=sizeLine/\k=((y.length:Int) != 0):=e;subst e'
  show PySem.P.truthy_str 01 #[H,I.tok _,q]
 |byt y=>
  let(t,rfl):=J;obtain⟨hy,e'⟩:y.size<=sizeLine/\k=((y.size:Int) != 0):=e;subst e'
  show PySem.W.truthy_bytes 01 #[H,I.tok _,q]
 |ref p=>
  cases J;have e':=e;rcases e' with⟨xs,hx,e'⟩|⟨xs,hx,e'⟩|⟨kvs,hx,e'⟩
  .subst e';let(its,r,pl,hz):=I.list hx;have z:=r.length;show wpAny_truthy_list pl.isList (by dsimp[IA];omega) #[H,I.tok _,by rw[jm r];show q]
  .subst e';let(its,r,pl,hz):=I.tuple hx;have z:=r.length;show truthy_tuple pl (by dsimp[IA];omega) #[H,I.tok _,by rw[jm r];show q]
  .subst e';obtain⟨hz,O,vs,r,m⟩:kvs.length<=sizeLine/\(p==BC)=false/\∃vs,KV kvs vs/\s.heap.DictOf (zY X.prog X.w) p vs:=I.hok p _ hx;have z:kvs.length=vs.length:=Paired.length r
   show wpAny_truthy_dict O m 01 #[H,I.tok _,by rw[zK7 r];show q]
 |_=>show(show False from e).elim
def zPG(ha:PE X a ta)(he:∀z,isTrue a X.env z=(do let v <- z;T9 a.pos;K8 [v] (truthy v))):
  PT X a (λσ H Q=>ta σ H λx H'=>∃k,mZ X.K x H' k/\Q k H'):=by
 intro pins s σ H Q I h;show isTrue_plain (iD (ha _ s σ H _ I h) λv s1 ⟨x,H1,I1,r1,q1⟩=>zRg _ s1 σ H1 x v Q I1 r1 q1)<|he _
def zK8:UH X (N8 .Add) (λx y H Q=>∃i j,x=.str i/\y=.str j/\i.length+j.length<=sizeLine/\Q (.str<|i++j) H):=by
 intro pins s σ H x y v u Q I z J h;let(i,j,rfl,rfl,hz,q):=h;let(t,rfl):=z;let(t',rfl):=J;show add_str (λt' tk=>#[.str _,H,I.tok _,#[_,rfl],q]) hz
def yo(b:Expr):=(∀o i,et b false o i=operate [o,i] (br o i):Prop)
def JN(r:zl [x] us):∃u,us=[u]/\z9 x u:=by
 cases r with
 |cons r1 r2=>cases r2;show#[_,rfl,r1]
def Tg(r:zl [x,y] us):∃u J,us=[u,J]/\z9 x u/\z9 y J:=by
 cases r with
 |cons r1 r2=>
  cases r2 with
  |cons r3 O=>cases O;show#[_,_,rfl,r1,r3]
def vj:sJ X (.type "int") (λxs H Q=>(∃i,xs=[.int i]/\Q (.int i) H)\/∃k,xs=[.bl k]/\Q (.int<|if k then 1 else 0) H):=by
 intro pins s σ H xs us Q I r h;rcases h with⟨i,rfl,q⟩|⟨k,rfl,q⟩
 .let(u,rfl,t,rfl):=JN r;show call_int_int #[.int i,H,I,#[_,rfl],q]
 .let(u,rfl,r1):=JN r;cases r1;show call_int_bool #[.int _,H,I.tok _,#[_,rfl],q]
end
end L2
namespace L2
open PySem PySem.Spec PyProof.Rows
structure XW(h:Heap)(x dx C:Addr)(mA:AF):Prop where
 obj:h.get? x>xE C dx
 ns:h.Ns1 dx mA
 ne:dx≠x
def zMI{h:Heap}{mA:AF}(n:h.Ns1 dx mA):∃od,h.get? dx>od/\∀name,gH name od>mA name:=by
 let(o,es,ep,O,hd,hk,_,hm):=n;refine#[o,O,λname=>?_];have e:=hm name;unfold nsFind findBy at e;rw[<- Array.find?_toList]at e;unfold gH;rw[hd];dsimp only;split
 .rename_i y q;rw[q]at e;show congrArg _ e
 .rename_i q;rw[q]at e
  have a:es.toList.any (·.refKey)=false:=by
   rw[kG];intro y hy;let(z,t,U):=hk y<|Array.mem_toList_iff.mp hy;simp[DictEntry.refKey,U]
  have J:¬ es.toList.any (·.refKey)=true:=by rw[a];simp_all
  rw[if_neg J];show congrArg _ e
def XW.look{mA:AF}(I:XW h x dx C mA):∃od,PySem.W.InstAt h x (xE C dx) C (some od)/\∀name,gH name od>mA name:=
 let ⟨od,ho,hl⟩:=zMI I.ns
 #[od,#[I.obj,rfl,rfl,ho],hl]
section
variable {prog:F6}{w:F9}{A:F8}{E:jD}{s:F2}{K:Fg}{x dx C f:Addr}{mA:AF}{name:Str}{v:F3}
def zSh{Q:jD}(X:K.In s.heap)(I:XW s.heap x dx C mA)(z:aF K C name=true)(hh:VF K C=true)(ha:jB K (.ref C) name>none)(hv:mA name>v)(O:pP v=true)(h:Q v { s with toks:=s.toks+1 }):
  F5 (F4 prog w) A (getAttr (.ref x) name expr) Q E s:=by
 let(od,J,hl):=I.look;show PySem.W.get_value X J (AH z).1 (PySem.W.findObj_own hh ha rfl<|by simp_all) O h
def zPH{Q:F3×L F3->F2->Prop}(X:K.In s.heap)(I:XW s.heap x dx C mA)(z:aF K C name=true)(hf:jB K (.ref C) name>(some<|.ref f))(O:wG K (.ref f)=true)(hv:mA name=none)(h:Q (.ref f,[.ref x]) s):
  F5 (F4 prog w) A (T7 (.ref x) name pl) Q E s:=by
 let(od,J,hl):=I.look;show PySem.W.method_fn X J (AH z).1 (AH z).2 hf (beq_iff_eq.mp O) (by change(gH _ od).map _>_;simp_all) h
def zSi{ns:L Str}{Q:Unit->F2->Prop}(X:K.In s.heap)(I:XW s.heap x dx C mA)
  (hs:jB K (.ref C) "__setattr__" = some (some<|.builtin "object.__setattr__")) (hp:kI K C=true) (ht:pJ K C name>none) (hh:VF K C=true)
  (hw:MM mA ns) (hsz:ns.length<=sizeLine)
  (h:∀h',XW h' x dx C (λy=>if y=name then some v else mA y)->EC dx s.heap h'->Q () { s with heap:=h',toks:=s.toks+2 }) :
  F5 (F4 prog w) A (setAttr (.ref x) name v) Q E s:=by
 let(od,J,hl):=I.look;refine PySem.W.set_plain X J hs (PySem.W.osa_open X J hp ht λb=>?_);let(cd,hc,nQ):=PySem.W.any_some hh;have hx:=I.obj;refine Ee<|F1<|Ee<|Ee<|wpAny_loadPart hx<|Ee<|W8 (PySem.W.looks_clsIn X hc) ?_;rw[nQ];refine F1<|Ee<|F1<|Ee ?_;refine wpAny_nsSet1 I.ns λh' M9 Y=>?_
 let(oD,esD,epD,U,O,z):=M9.count<|Gc _ v hw;refine Ee (wpAny_lookBehind U (by rw[O];show pastItsLine_dict<|JA z<|by grind) ?_);show F1<|h _ #[(Y.2 _<|Ne.symm I.ne).trans I.obj,M9,I.ne] Y
def zPI{R:dr->F2->Prop}(X:K.In s.heap)(hm:oJ K C=true)(hi:jB K (.ref C) "__init__" = some (some<|.ref f))(hf:jH K (.ref f)>.type "function") (h:pE (F4 prog w) (A.under<|.builtin "type.__call__" #[.ref C::vs,kw]) (.call (.ref f) #[.ref (s.heap.objs.size+1)::vs,kw]) (PySem.W.InitBack (s.heap.objs.size+1) R)
   { s with heap:=(s.heap.push OE).push (xE C s.heap.objs.size) }) :
  pE (F4 prog w) A (.call (.ref C) #[vs,kw]) R s:=by
 show PySem.W.make_core (PySem.W.makes_of X hm) (gF X hi) (λself=>PySem.W.bind_fn X _ hf) (.inl rfl) h
end
noncomputable def aI(f:Str)(v:V):L (Str×V)->L (Str×V)
 | []=>[(f,v)]
 |(g,x)::r=>if g=f then (g,v)::r else (g,x)::aI f v r
theorem Z5(f g:Str)(v:V):∀fs:L (Str×V),(aI f v fs).lookup g=if g=f then some v else fs.lookup g
 |[]=>by
  change VC g [(f,v)]=_;by_cases h:g=f
  .have hb:=beq_iff_eq.mpr h;dsimp[VC,hb,if_pos h]
  .have hb:=beq_eq_false_iff_ne.mpr h
   dsimp[VC,hb,if_neg h]
 |(k,x)::r=>by
  have ih:=Z5 f g v r;rw[show aI f v _=(if k=f then (k,v)::r else (k,x)::aI f v r) from rfl];by_cases hk:k=f
  .rw[if_pos hk];by_cases h:g=k
   .have hb:=beq_iff_eq.mpr h;dsimp[VC,hb,if_pos<|h.trans hk]
   .have hb:=beq_eq_false_iff_ne.mpr h;dsimp[VC,hb,if_neg (λe:g=f=>h<|e.trans hk.symm)]
  .rw[if_neg hk];by_cases h:g=k
   .have hb:=beq_iff_eq.mpr h;dsimp[VC,hb,if_neg<|λe=>hk<|h.symm.trans e]
   .have hb:=beq_eq_false_iff_ne.mpr h;dsimp[VC,hb];show ih
theorem Nz(f:Str)(v:V):∀fs:L (Str×V),f∈(aI f v fs).map (·.1)/\∀g,g∈fs.map (·.1)->g∈(aI f v fs).map (·.1)
 | []=>#[by simp[aI],λg h=>by simp at h]
 |(k,x)::r=>by
  let(z,i2):=Nz f v r;rw[show aI f v _=(if k=f then (k,v)::r else (k,x)::aI f v r) from rfl]
  grind
theorem Mz(f:Str)(v:V):∀fs:L (Str×V),(aI f v fs).length<=fs.length+1
 | []=>by simp[aI]
 |(k,x)::r=>by
  have ih:=Mz f v r;rw[show aI f v _=(if k=f then (k,v)::r else (k,x)::aI f v r) from rfl]
  grind
def DK.some_of(r:DK (some v) o):∃u,o>u/\z9 v u:=by
 cases o with
 |none=>show(r).elim
 |some u=>show#[u,rfl,r]
def DK.none_of(r:DK none o):o=none:=by
 cases o with
 |none=>rfl
 |some u=>show(r).elim
def zMJ(r:z9 v u):pP u=true:=by
 cases v with
 |non=>cases (r);rfl
 |bl b=>cases (r);rfl
 |int i=>let(t,e):=(r);cases e;rfl
 |str x=>let(t,e):=(r);cases e;rfl
 |byt b=>let(t,e):=(r);cases e;rfl
 |flt b=>let(t,e):=(r);cases e;rfl
 |ref a=>cases (r);rfl
 |ty n=>cases (r);rfl
section
variable {P:F6}{w:F9}{H H':Hp}{h h':Heap}{a C dx:Addr}{fs fs':L (Str×V)}
def Qk(hok:HOk P w H h)(e:H a>.ins C dx fs):∃mA,XW h a dx C mA/\(∀f,DK (fs.lookup f)<|mA f)/\MM mA (fs.map (·.1))/\fs.length<=1000/\H dx>.own a:=by
 let(d,z,ne,ob,mA,n,r,q):=(hok a _ e)
 show#[mA,#[ob,n,ne],r,q,z,d]
end
structure TH(K:Fg)(C:Addr):Prop where
 pg:aF K C oF=true
 hd:VF K C=true
 po:kI K C=true
 sa:jB K (.ref C) "__setattr__" = some (some<|.builtin "object.__setattr__")
def TH.get{K:Fg}{C:Addr}(c:TH K C)(f:Str):aF K C f=true:=c.pg
def ye(K:Fg)(C:Addr)(f:Str):=(jB K (.ref C) f>none:Prop)
def ye.taker{K:Fg}{C:Addr}{f:Str}(n:ye K C f):pJ K C f>none:=by
 unfold pJ;rw[n];rfl
structure YW(K:Fg)(C:Addr)(m:Str)(f:Addr):Prop where
 at_:jB K (.ref C) m>(some<|.ref f)
 fn:wG K (.ref f)=true
 kp:pD K (.ref f)=true
section
variable {X:Cx}{pins:IE}{σ:St}{H:Hp}{s:F2}{a C dx:Addr}{fs:L (Str×V)}{f:Str}{v:V}{A:F8}{E:jD}
def zK9{Q:jD}(I:Inv X pins σ H s)(e:H a>.ins C dx fs)(c:TH X.K C)(n:ye X.K C f)(l:fs.lookup f>v)(h:∀u s',Inv X pins σ H s'->z9 v u->Q u s'):F5 (F4 X.prog X.w) A (getAttr (.ref a) f b) Q E s:=by
 let(mA,O,r,_,_,_):=Qk I.hok e;let(u,U,J):=DK.some_of (by rw[<- l];show r f);show zSh I.kIn O (c.get f) c.hd n U (zMJ J)<|h u _ (I.tok _) J
def Bn{Q:F3×L F3->F2->Prop}(I:Inv X pins σ H s)(e:H a>.ins C dx fs)(c:TH X.K C)(k:YW X.K C m g)(l:fs.lookup m=none)(h:Q (.ref g,[.ref a]) s):F5 (F4 X.prog X.w) A (T7 (.ref a) m pl) Q E s:=by
 let(mA,O,r,_,_,_):=Qk I.hok e;have hn:=DK.none_of (by rw[<- l];show r m);show zPH I.kIn O (c.get m) k.at_ k.fn hn h
def zLA{Q:Unit->F2->Prop}(I:Inv X pins σ H s)(e:H a>.ins C dx fs)(c:TH X.K C)(n:ye X.K C f)(hl:fs.length<1000)(ry:z9 y u)(h:∀s',Inv X pins σ (upd H a<|.ins C dx<|aI f y fs) s'->Q () s'):F5 (F4 X.prog X.w) A (setAttr (.ref a) f u) Q E s:=by
 let(mA,O,r,Y,_,U):=Qk I.hok e;have hz:(fs.map (·.1)).length<=sizeLine:=by rw[lA,K7];omega
 refine zSi I.kIn O c.sa c.po n.taker c.hd Y hz λh' J sb=>h _ ?_
 have hd:∃o,h'.get? dx>o:=let ⟨o,_,_,e',_⟩:=J.ns;#[o,e'];refine I.write (by rw[e];show True.intro) (.inr U) (λb q hb z=>(sb.2 b hb).trans z) hd ?_;refine#[by rw[zD O.ne];show U,?_,O.ne,J.obj,_,J.ns,λg=>?_,λg hg=>?_]
 .have:=Mz f y fs;omega
 .rw[Z5];by_cases q:g=f
  .rw[if_pos q,if_pos q];show ry
  simp_all
 .by_cases q:g=f
  .rw[q];show(Nz f y fs).1
  .refine(Nz f y fs).2 g (Y g λz=>hg ?_)
   simp_all
def Inv.made(I:Inv X pins σ H s):Inv X pins σ (upd (upd H s.heap.objs.size<|.own<|s.heap.objs.size+1) (s.heap.objs.size+1)<|.ins C s.heap.objs.size [])
  { s with heap:=(s.heap.push OE).push (xE C s.heap.objs.size) }:=by
 have e1:(s.heap.push OE).get? _>_:=rA _ rfl
 have z:=by
  have:=rA (s.heap.push OE) (o:=xE C s.heap.objs.size) rfl
  rwa [MD]at this
 have e3:(s.heap.push _).Ns _ _:=#[OE,[].toArray,_,e1,rfl,(λe he=>absurd he<|by simp),λ_=>rfl]
 have I1:=I.laid (o:=.own<|s.heap.objs.size+1) (t':=s.toks) (λb u q=>jA _ q) (wA _) #[_,e1];refine I1.laid (λb u q=>jA _ q) (V8<|MD _ _) ?_;have ne:s.heap.objs.size≠s.heap.objs.size+1:=GA<|uE _;refine#[by rw[zD ne,HA],LB _,ne,z,λ_=>none,(Heap.Ns1.of_empty e3).at λo q=>jA _ q,λ_=>True.intro,λy hy=>absurd rfl hy]
def zSk{Q:jD}(hb:RF e f env (eval e env)=eval e env)(h:F5 (F4 prog w) A (eval e env) (λo z=>F5 (F4 prog w) A (getAttr o f true) Q E z) E s):F5 (F4 prog w) A (eval (.Attribute e f pos) env) Q E s:=
 Attribute_any_ h (by rw[arm_eval_Attribute,hb])
end
def Ll(K:Fg)(ta:TE)(f:Str):=(λσ H Q=>ta σ H λx H1=>∃a C dx fs v,x=.ref a/\H1 a>.ins C dx fs/\TH K C/\ye K C f/\fs.lookup f>v/\Q v H1:TE)
noncomputable def Kv(K:Fg)(ta tv:TE)(f:Str):TS:=λD σ H=>tv σ H λy H1=>ta σ H1 λx H2=>∃a C dx fs,x=.ref a/\H2 a>.ins C dx fs/\TH K C/\ye K C f/\fs.length<1000 /\
 D.nx σ (upd H2 a<|.ins C dx<|aI f y fs)
section
variable {X:Cx}{o e value:Expr}{f:Str}{pos pos' kE:Pos}{ta tv:TE}
def BU(he:PE X e ta)(hb:RF e f X.env (eval e X.env)=eval e X.env):PE X (.Attribute e f pos) (Ll X.K ta f):=by
 intro pins s σ H Q I h;refine zSk hb (iD (he _ s σ H _ I h) λu s1 zz=>?_);let(x,H1,I1,O,a,C,dx,fs,v,ex,z,c,n,l,q):=zz;subst ex;obtain rfl:u=mB a:=O;show zK9 I1 z c n l λu' s2 I2 J=>#[v,H1,I2,J,q]
def Rq(ha:PE X o ta)(hv:PE X value tv)(hs:dF value (some<|.Attribute o f pos') pos.line X.env=pure false):PS X (.Assign [.Attribute o f pos'] value pos) (Kv X.K ta tv f):=by
 intro pins s σ H D I h;refine plainObj_wpAny_Assign_Attribute (iD (hv _ s σ H _ I h) λu s1 z=>?_) hs;let(y,H1,I1,ry,q):=z;refine iD (ha _ s1 σ H1 _ I1 q) λU s2 z=>?_
 let(x,H2,I2,rx,a,C,dx,fs,ex,O,c,n,l,Y):=z;subst ex;obtain rfl:U=mB a:=rx;show zLA I2 O c n l ry λs3 J=>#[σ,_,J,Y]
def zSl{apos:Pos}{Q:jD}(he:PE X e te)(I:Inv X pins σ H s) (h:te σ H λx H1=>∃a C dx fs g,x=.ref a/\H1 a>.ins C dx fs/\TH X.K C/\YW X.K C m g/\fs.lookup m=none /\
   ∀s1,Inv X pins σ H1 s1->F5 (F4 X.prog X.w) X.A (au pos (.ref g) [.ref a] (N4 pos<|F7 args X.env)<|T5 pos<|N0 [] X.env) Q X.xe s1) (J:eval (.Call (.Attribute e m apos) args [] pos) X.env=(do
   let ov <- eval e X.env
   T9 apos.atName
   let (f,first) <- K8 [ov] (T7 ov m pl)
   au pos f first (N4 pos<|F7 args X.env) (T5 pos<|N0 [] X.env))) :
  F5 (F4 X.prog X.w) X.A (eval (.Call (.Attribute e m apos) args [] pos) X.env) Q X.xe s:=by
 refine VE (pl:=pl) (iD (he pins s σ H _ I h) λu s1 O=>?_) J;let(x,H1,I1,U,a,C,dx,fs,g,ex,z,c,k,l,q):=O;subst ex;obtain rfl:u=mB a:=U;show Bn I1 z c k l<|q s1 I1
end
section
variable {X:Cx}{pins:IE}{σ:St}{H:Hp}{s:F2}{A:F8}{E:jD}{Q:jD}{c:F3}{b:Bool}
end
end L2
namespace L2
open PySem PySem.Spec PyProof.Rows
structure qB(k:Nat)(A:F8):Prop where
 hd:A.handled=none
 dp:A.depth+3*k+5<Ux
 un:A.units+16*k+200<K6
 gd:A.guards>[]
def qB.mono(r:qB k A)(h:j<=k):qB j A:=#[r.hd,by have:=r.dp;omega,by have:=r.un;omega,r.gd]
def qB.deeper{A:F8}(r:qB (k+1) A)(env:Env):qB k (A.deeper env):=
 #[r.hd,by have:=r.dp;change A.depth+1+3*k+5<_;omega,by have:=r.un;change A.units+3+16*k+200<_;omega,r.gd]
def zLB{A:F8}:(A.under<|.builtin "type.__call__" #[.ref C::us,kw]).depth=A.depth+1:=rfl
def zLC{A:F8}:(A.under<|.builtin "type.__call__" #[.ref C::us,kw]).units=A.units+1:=rfl
def qB.make{A:F8}(r:qB (k+1) A)(C:Addr)(us:L F3)(z:L (Str×F3)):qB k (A.under<|.builtin "type.__call__" #[.ref C::us,z]):=
 #[r.hd,by have:=r.dp;rw[zLB];omega,by have:=r.un;rw[zLC];omega,by rw[<- r.gd];rfl]
def qB.depth{A:F8}(r:qB k A):A.depth<Ux:=by have:=r.dp;omega
def qB.units{A:F8}(r:qB k A):A.units+64<K6:=by have:=r.un;omega
def qB.units0{A:F8}(r:qB k A):A.units<K6:=by have:=r.un;omega
def CS:=(λ_ H Q=>Q [] H:TA)
def Th(ta:TE)(tr:TA):=(λσ H Q=>ta σ H λx H1=>tr σ H1 λxs H2=>Q (x::xs) H2:TA)
section
variable {X:Cx}{e:Expr}{es:L Expr}{te:TE}{t:TA}{pos:Pos}
def zZ:PA X [] CS:=λ_ _ _ _ H Q I h=>aQ #[[],H,I,.nil,h]
def zP(ha:PE X e te)(hr:PA X es t)(hs:F7 (e::es) X.env=(false,eval e X.env)::F7 es X.env:=by rfl):PA X (e::es) (Th te t):=by
 intro pos pins s σ H Q I h;rw[hs];change F5 _ _ (spliced ((false,eval e _)::N4 _ _)) _ _ s;refine gI (iD (ha _ s σ H _ I h) λu s1 zz=>?_);let(x,H1,I1,r1,q1):=zz;show iD (hr _ _ s1 σ H1 _ I1 q1) λus s2 ⟨xs,H2,I2,r2,z⟩=>#[x::xs,H2,I2,.cons r1 r2,z]
def Ly(t:TA):=(λσ H Q=>t σ H λxs H1=>xs.length<=sizeLine/\∀p,H1 p=none->Q (.ref p) (upd H1 p<|.tup xs):TE)
def Lq(t:TA):=(λσ H Q=>t σ H λxs H1=>xs.length<=sizeLine/\∀p,H1 p=none->Q (.ref p) (upd H1 p<|.lst xs):TE)
def zWI{x1}(h:PA X es t):PE X (.Tuple es x1 pos) (Ly t):=by
 intro pins s σ H Q I hq;refine wpAny_Tuple_spliced (iD (h _ _ s σ H _ I hq) λus s1 ⟨xs,H1,I1,r,z,q⟩=>#[by rw[<- r.length];show z,?_]);have hf:=I1.hok.fresh<|wA _;refine#[.ref _,upd H1 _ _,I1.laid (λb u e=>jA _ e) (wA _) ?_,rfl,q _ hf];show#[z,us,r,#[_,rA _ rfl,rfl,_,rfl,rfl]]
def Ed(h:PA X es t):PE X (.List es pos) (Lq t):=by
 intro pins s σ H Q I hq;refine wpAny_List_spliced (iD (h _ _ s σ H _ I hq) λus s1 ⟨xs,H1,I1,r,z,q⟩=>#[by rw[<- r.length];show z,?_]);have hf:=I1.hok.fresh<|wA _;refine#[.ref _,upd H1 _ _,I1.laid (λb u e=>jA _ e) (wA _) ?_,rfl,q _ hf];show#[z,us,0,r,rA _ rfl]
end
abbrev Sp:=L V->Hp->VK->XK->Prop
abbrev YN:=L Env->Hp->F2->XK->F3->F2->Prop
structure ZW(P:F6)(w:F9)(K:Fg)(mg:AF)(base:Heap)(A:F8)(outer:List Env)(s:F2)(H:Hp):Prop where
 frames:A.frames>outer
 mod:Mod K mg base
 bs:∀b o,base.get? b>o->s.heap.get? b>o/\H b=none
 bsz:base.objs.size<=s.heap.objs.size
 funs:s.heap.FunFrames base outer
 frf:∀b∈oH outer,H b=none
 hok:HOk P w H s.heap
 bare:jG s.gens
noncomputable def CE(outer:L Env)(P:F6)(w:F9)(H:Hp)(s:F2)(Q:VK)(u:F3)(s':F2):Prop:=
 ∃v H',s'.os=s.os/\jG s'.gens/\Un (oH outer) [] H H' s.heap s'.heap/\HOk P w H' s'.heap/\z9 v u/\Q v H'
noncomputable def CR(CX:YN)(outer:L Env)(P:F6)(w:F9)(H:Hp)(s:F2)(Q:VK)(E:XK)(r:dr)(s':F2):Prop:=
 match r with
 |.ok (.ret u)=>CE outer P w H s Q u s'
 |.ok _=>False
 |.error e=>CX outer H s E e s'
structure PH(P:F6)(w:F9)(K:Fg)(mg:AF)(base:Heap)(CX:YN)(k:Nat)(f:Addr)(fd:K5)(ps:List Str)(sp:Sp):Prop where
 len:∀vs H Q E,sp vs H Q E->vs.length=ps.length
 run:∀(A:F8)(outer:List Env)(s:F2)(H:Hp)(args:Args)(us:List F3)(vs:List V)(Q:VK)(E:XK),qB k A->ZW P w K mg base A outer s H->VM s fd args (ps.zip us)->zl vs us->sp vs H Q E ->
  pE (F4 P w) A (.call (.ref f) args) (CR CX outer P w H s Q E) s
def ZW.make{P:F6}{w:F9}{K:Fg}{mg:AF}{base:Heap}{A:F8}{outer:L Env}{s:F2}{H:Hp}(e:ZW P w K mg base A outer s H)(C:Addr)(us:L F3)(z:L (Str×F3)):
  ZW P w K mg base (A.under<|.builtin "type.__call__" #[.ref C::us,z]) outer s H:=#[by first|show e.frames|grind,e.mod,e.bs,e.bsz,e.funs,e.frf,e.hok,e.bare]
section
variable {X:Cx}{pins:IE}{σ:St}{H:Hp}{s s':F2}
def Inv.env0(I:Inv X pins σ H s):ZW X.prog X.w X.K X.mg X.base X.A X.stack s H:=
 #[I.ok.frames,I.ok.mod,I.bs,JA I.ok.bsz I.sz,I.stack,I.stkFree,I.hok,I.bare]
def Inv.after(I:Inv X pins σ H s)(h:CE X.stack X.prog X.w H s Q u s'):EP X pins σ Q u s':=by
 let(v,H',os,bare,un,hok,r,q):=h;let(hh,g,d,t,J):=s';obtain rfl:J=s.os:=os;show#[v,H',I.call un hok bare (λb z=>absurd z<|by simp),r,q]
end
def v5(sp:Sp)(uP:L V)(E:XK)(t:TA):=(λσ H Q=>t σ H λvs H1=>sp (vs++uP) H1 Q E:TE)
noncomputable def zWJ(C:Addr)(m:Str)(sp:Sp)(uP:L V)(E:XK)(ta:TE)(t:TA):TE:=λσ H Q=>ta σ H λx H1=>∃a dx fs,x=.ref a/\H1 a>.ins C dx fs/\fs.lookup m=none /\
 t σ H1 λvs H2=>sp (x::(vs++uP)) H2 Q E
noncomputable def RO(K:Fg)(fd:K5)(ps:L Str)(ds:L F3):Prop:=
 ∀(s:F2)(us:L F3),K.In s.heap->(us++ds).length=ps.length->VM s fd #[us,[]] (ps.zip<|us++ds)
def RO.all{K:Fg}{fd:K5}{ps:L Str}(h:∀us:L F3,us.length=ps.length->Uv fd #[us,[]]=pure (ps.zip us)):RO K fd ps []:=λs us _ hl=>by
 rw[WA]at hl ⊢;show .of_eq<|h us hl
def IP(CX:YN)(X:Cx)(E:XK):=(∀(pins:IE)(σ:St)(H:Hp)(s:F2)(e:F3)(s':F2),Inv X pins σ H s->CX X.stack H s E e s'->X.xe e s':Prop)
section
variable {X:Cx}{CX:YN}{k:Nat}{f C:Addr}{fd:K5}{ps:L Str}{sp:Sp}{uP:L V}{ds:L F3}{E:XK}{x m:Str}{p pos apos:Pos}{e o:Expr}{es:L Expr}{ta:TE}{t:TA}
def Rr(F:PH X.prog X.w X.K X.mg X.base CX k f fd ps sp)(hr:qB k X.A)(hb:RO X.K fd ps ds)(hd:zl uP ds)(hx:IP CX X E)(I:Inv X pins σ H s)(r:zl vs us)(h:sp (vs++uP) H Q E):F5 (F4 X.prog X.w) X.A (call (.ref f) us) (EP X pins σ Q) X.xe s:=by
 have r2:=r.append hd;have hl:(us++ds).length=ps.length:=by rw[<- r2.length];show F.len _ _ _ _ h
 refine XN (T4 (F.run _ _ s H _ _ _ Q E hr I.env0 (hb s us I.kIn hl) r2 h) λr s' hq=>?_)
 cases r with
 |error e=>show hx _ σ H s e s' I hq
 |ok fl=>
  cases fl with
  |ret u=>show I.after hq
  |next=>show False.elim hq
  |brk=>show False.elim hq
  |cont=>show False.elim hq
def DW(F:PH X.prog X.w X.K X.mg X.base CX k f fd ps sp)(hr:qB k X.A)(O:Gl X x)(hm:X.mg x>.ref f)(hk:pD X.K (.ref f)=true)(hb:RO X.K fd ps ds)(hd:zl uP ds)(hx:IP CX X E)
  (ha:PA X (e::es) t) (z:(x==("__debug__" : Str))=false) (he:F7 (e::es) X.env=(false,eval e X.env)::F7 es X.env) (J:(N4 pos<|F7 es X.env).any (·.1)=false) :
  PE X (.Call (.Name x p) (e::es) [] pos) (v5 sp uP E t):=by
 intro pins s σ H Q I h;refine bF<|ZX I O hm ?_ z;refine JF I.ok.mod.kin hk (iD (ha _ _ s σ H _ I h) λus s1 ⟨vs,H1,I1,r,q⟩=>#[I1.kIn,?_]) he J;show Rr F hr hb hd hx I1 r q
def Dm(he:PE X o ta)(c:TH X.K C)(hm:YW X.K C m f)(F:PH X.prog X.w X.K X.mg X.base CX k f fd ps sp)(hr:qB k X.A)(hb:RO X.K fd ps ds)(hd:zl uP ds)(hx:IP CX X E)(ha:PA X (e::es) t)(wI:F7 (e::es) X.env=(false,eval e X.env)::F7 es X.env)(z:(N4 pos<|F7 es X.env).any (·.1)=false) (O:eval (.Call (.Attribute o m apos) (e::es) [] pos) X.env=(do
   let ov <- eval o X.env
   T9 apos.atName
   let (f,first) <- K8 [ov] (T7 ov m pl)
   au pos f first (N4 pos<|F7 (e::es) X.env) (T5 pos<|N0 [] X.env))) :
  PE X (.Call (.Attribute o m apos) (e::es) [] pos) (zWJ C m sp uP E ta t):=by
 intro pins s σ H Q I h;refine VE (iD (he _ s σ H _ I h) λu s1 Y=>?_) O;let(x,H1,I1,rx,a,dx,fs,ex,J,l,q):=Y;subst ex;obtain rfl:u=mB a:=rx;refine Bn I1 J c hm l ?_;refine JF I.ok.mod.kin hm.kp (iD (ha _ _ s1 σ H1 _ I1 q) λus s2 ⟨vs,H2,I2,r,U⟩=>#[I2.kIn,?_]) wI z;show Rr (vs:=.ref a::vs) F hr hb hd hx I2 (.cons rfl r) U
def zPJ(he:PE X o ta)(c:TH X.K C)(hm:YW X.K C m f)(F:PH X.prog X.w X.K X.mg X.base CX k f fd ps sp)(hr:qB k X.A)(hb:RO X.K fd ps ds)(hd:zl uP ds)(hx:IP CX X E) (J:eval (.Call (.Attribute o m apos) [] [] pos) X.env=(do
   let ov <- eval o X.env
   T9 apos.atName
   let (f,first) <- K8 [ov] (T7 ov m pl)
   au pos f first (N4 pos<|F7 [] X.env) (T5 pos<|N0 [] X.env))) :
  PE X (.Call (.Attribute o m apos) [] [] pos) (zWJ C m sp uP E ta CS):=by
 intro pins s σ H Q I h;refine VE (iD (he _ s σ H _ I h) λu s1 O=>?_) J;let(x,H1,I1,U,a,dx,fs,ex,z,l,q):=O;subst ex;obtain rfl:u=mB a:=U;refine Bn I1 z c hm l ?_;show PySem.W.callWith_K0 I1.kIn hm.kp<|Rr (us:=[.ref a]) (vs:=[.ref a]) F hr hb hd hx I1 (.cons rfl .nil) q
structure Mk(K:Fg)(C f:Addr):Prop where
 makes:oJ K C=true
 init:jB K (.ref C) "__init__" = some (some<|.ref f)
 fn:wG K (.ref f)=true
 kp:pD K (.ref C)=true
end
section
variable {X:Cx}{CX:YN}{k:Nat}{f C:Addr}{fd:K5}{ps ks:L Str}{sp:Sp}{E:XK}{x m:Str}{p pos apos jbd:Pos}{e o:Expr}{es:L Expr}{kws:L OK}{te ta:TE}{t tk:TA}{nm:Op Str}
variable {g:L F3->L F3->L F3}{gV:L V->L V->L V}
end
structure yA(N P:List Str)(sc:oE):Prop where
 kind:sc.kind=.function
 co:sc.isCoroutine=false
 gen:sc.isGenerator=false
 nd:N.Nodup
 pre:N.take P.length=P
 par:∀x∈P,sc.names.lookup x>.local\/sc.names.lookup x>.cell
 nofree:∀y∈sc.names,y.2≠.free
theorem vk{kindOf:Str->Op T6}:∀{binds:L (Str×F3)}{m:AF},(∀v,(x,v)∉binds)->bindL kindOf binds m x=m x
 | [],_,_=>rfl
 |(n,v)::r,m,h=>by
  unfold bindL;rw[vk λw hw=>h w<|cA _ hw];split
  .have:x≠n:=by rintro rfl;show h v eA
   simp[this]
  .rfl
theorem vm{kindOf:Str->Op T6}:∀{binds:L (Str×F3)}{m:AF},(∀v,(x,v)∉binds)->bindC kindOf binds m x=m x
 | [],_,_=>rfl
 |(n,v)::r,m,h=>by
  unfold bindC;rw[vm λw hw=>h w<|cA _ hw];split
  .rfl
  .have:x≠n:=by rintro rfl;show h v eA
   simp[this]
theorem vn{kindOf:Str->Op T6}:∀{P:L Str}{vs:L F3}{i:Nat}{m:AF},P.Nodup->P[i]?>x->vs[i]?>v->kindOf x>.local ->
  bindL kindOf (P.zip vs) m x>v
 | [],_,_,_,_,h,_,_=>by simp at h
 |_::_,[],_,_,_,_,h,_=>by simp at h
 |p::P,w::vs,0,m,nd,h1,h2,hk=>by
  simp at h1 h2;subst h1;subst h2;change bindL _ ((p,w)::P.zip vs) m p=_;unfold bindL;rw[vk λv hv=>(uB.mp nd).1 (kK hv).1,if_pos hk]
  simp
 |p::P,w::vs,i+1,m,nd,h1,h2,hk=>by
  unfold bindL;show vn (uB.mp nd).2 (by assumption) (by assumption) hk
theorem vp{kindOf:Str->Op T6}:∀{P:L Str}{vs:L F3}{i:Nat}{m:AF},P.Nodup->P[i]?>x->vs[i]?>v->kindOf x≠some .local ->
  bindC kindOf (P.zip vs) m x>v
 | [],_,_,_,_,h,_,_=>by simp at h
 |_::_,[],_,_,_,_,h,_=>by simp at h
 |p::P,w::vs,0,m,nd,h1,h2,hk=>by
  simp at h1 h2;subst h1;subst h2;change bindC _ ((p,w)::P.zip vs) m p=_;unfold bindC;rw[vm λv hv=>(uB.mp nd).1 (kK hv).1,if_neg hk]
  simp
 |p::P,w::vs,i+1,m,nd,h1,h2,hk=>by
  unfold bindC;show vp (uB.mp nd).2 (by assumption) (by assumption) hk
noncomputable def dM(N:L Str)(vs:L V):St:=vs.map some++nA (N.length-vs.length) none
noncomputable def sO(CX:YN)(P:F6)(w:F9)(K:Fg)(mg:AF)(base:Heap)(N:L Str)(qual:Str)(scope:oE)(f:Addr)(cd:F3)(A:F8)(outer:L Env)(s:F2)(H:Hp)(E:XK):Cx where
 prog:=P
 w:=w
 K:=K
 mg:=mg
 base:=base
 A:=A.deeper<|N9 qual scope s.heap.objs.size f cd
 N:=N
 s₀:=s
 H₀:=H
 env:=N9 qual scope s.heap.objs.size f cd
 outer:=outer
 stack:=N9 qual scope s.heap.objs.size f cd::outer
 ex:=[]
 calm:=true
 fn:=λ_=>true
 pn:=[]
 xe:=λe s'=>F5 (F4 P w) (A.deeper<|N9 qual scope s.heap.objs.size f cd) (leaving (N9 qual scope s.heap.objs.size f cd) e) (λ_ rR=>CX outer H s E e rR) (λe' rR=>CX outer H s E e' rR) s'
def zJn{sc:oE}(h:sc.names.lookup x>.cell):∃c,(cellsFrom n sc.names []).lookup x>c:=by
 have q:=TL _ n []<|.inl h;show Option.isSome_iff_exists.mp q
def zMM{CX:YN}{P:F6}{w:F9}{K:Fg}{mg:AF}{base:Heap}{N ps:L Str}{qual:Str}{scope:oE}{f:Addr}{cd:F3}{A:F8}{outer:L Env}{s s1:F2}{H:Hp}{E:XK}{us:L F3}{vs:L V}
  (S:yA N ps scope) (hd:A.handled=none) (e0:ZW P w K mg base A outer s H) (hl:vs.length=ps.length) (r:zl vs us)
  (x:InCallC s s.heap.objs.size (bindL (N9 qual scope s.heap.objs.size f cd).kindOf (ps.zip us) λ_=>none) (cellsFrom (s.heap.objs.size+1) scope.names []) (bindC (N9 qual scope s.heap.objs.size f cd).kindOf (ps.zip us) λ_=>none) s1) :
  Inv (sO CX P w K mg base N qual scope f cd A outer s H E) [] (dM N vs) H s1:=by
 have Y:ps.length<=N.length:=by have:=congrArg xF S.pre;rw[CG]at this;omega
 let(h1,tk,rfl,hk):=x.done;have P2:∀b ,b∉(sO CX P w K mg base N qual scope f cd A outer s H E).ex:=λb z=>absurd (show b∈[] from z) (by simp)
 refine#[#[e0.mod,S.kind,rfl,rfl,wA _,λy z c h1 h2=>?_,λy hy=>?_,λy c _ h=>?_,λ_=>hd,Around.frames_deeper e0.frames,.inr #[rfl,rfl],λb z=>absurd z<|P2 b,e0.bs,e0.bsz,λb _ _=>P2 b,λb z=>absurd z<|P2 b,e0.funs,e0.frf],
  rfl,e0.bare,Un.kept hk,#[_,x.toInCall.ns,λi y v h1 h2 h3=>?_],λy c h=>#[_,x.cell y c h],e0.hok.fresh<|wA _,λy c h=>?_,λp hp=>absurd (show p∈[] from hp) (by simp),e0.hok.kept hk,?_]
 .show name_of_addr x.apart (FC h1)<|FC h2
 .rcases hy with hy|hy
  .show zJn hy
  .show absurd rfl<|S.nofree _<|FC hy
 .show iJ<|x.above y c<|FC h
 .have hi:i<vs.length:=by
   unfold dM at h2;by_cases hi:i<vs.length
   .show hi
   .rw[eB<|by simpa using hi]at h2;rw[DB]at h2;split at h2<;>cases h2
  have ha:vs[i]?>v:=by
   unfold dM at h2;rw[NA ‹hi›,MA]at h2
   cases e:vs[i]? with
   |none=>rw[e]at h2;cases h2
   |some a=>rw[e]at h2;cases h2;rfl
  let(u,O,U):=r.get ha
  have hp:ps[i]?>y:=by
   rw[<- S.pre,List.getElem?_take_of_lt<|01];show h1
  have J:ps.Nodup:=by rw[<- S.pre];show S.nd.sublist<|UQ _ _
  refine#[u,U,?_];rcases S.par y (xA hp) with k|k
  .show .inl #[k,vn J hp O k]
  .let(c,e):=zJn k;refine .inr #[.inl k,c,e,?_];have q:=x.cell y c e;rw[vp J hp O (by change scope.names.lookup y≠_;rw[k];decide)]at q;show q
 .show e0.hok.fresh<|iJ<|x.above y c<|FC h
 .unfold dM;change _=N.length;rw[OA,lA,sH];omega
def V7{K:Fg}{mg:AF}{k:Nat}{f:Addr}{name qual:Str}{body:L Stmt}{dV kV U pm O ct oc:F3}{an od:Op Addr}{dO:Array (Op F3)}{N ps:L Str}(lk:K.lookup f>#[oc,od,.func<|fE name qual params body scope dV kV U pm an O ct,dO])(FL:fH K O qual=true)(S:yA N ps scope)(len:∀vs H Q E,sp vs H Q E->vs.length=ps.length) (SD:∀(A:F8)(outer:L Env)(s:F2)(H:Hp)(vs:L V)(Q:VK)(E:XK),qB k (A.deeper<|N9 qual scope s.heap.objs.size f O)->sp vs H Q E ->
   ∃t,oK (sO CX P w K mg base N qual scope f O A outer s H E) body t/\t { nx:=λ_ H'=>Q .non H',rt:=Q } (dM N vs) H) :
  PH P w K mg base CX (k+1) f (fE name qual params body scope dV kV U pm an O ct) ps sp:=by
 refine#[len,λA outer s H args us vs Q E hr e0 hb r fU=>?_];have hl:=len _ _ _ _ fU;have KX:=e0.mod.kin.keeps λb o e=>(e0.bs b o e).1
 have lim:=e0.mod.nolimit.keeps λb o e=>(e0.bs b o e).1
 have A0:∀y∈ps.zip us,scope.names.lookup y.1>.local\/(scope.names.lookup y.1>.cell/\((cellsFrom (s.heap.objs.size+1) scope.names []).lookup y.1).isSome=true):=by
  rintro⟨n,v⟩ hy;rcases S.par n (kK hy).1 with q|q
  .show .inl q
  .show .inr #[q,TL _ _ _<|.inl q]
 refine codeAny_call_function hr.depth (KX _ _ lk) rfl S.co S.gen rfl (PySem.W.codeRec_of KX FL)<|hb _ _ _ _ ?_;refine wpAny_newFunctionEnv_cells S.kind A0 λenv he s1 x=>?_
 subst he;refine#[lim.keeps x.toInCall.keep,codeAny_func ?_];let(t,ht,hq):=SD A _ s H vs Q E (hr.deeper _) fU;have I:Inv (sO CX P w K mg _ N qual _ f O A _ s H E) [] _ H s1:=zMM S hr.hd e0 hl r x;refine K0 (ht [] s1 _ H _ I hq) (λfl s' hs=>?_) λe s' hs=>hs
 have fin:∀{Y:St}{H':Hp}{v:V}{u:F3},Inv (sO CX P w K mg base N qual scope f O A _ s H E) [] Y H' s'->z9 v u->Q v H'->CE outer P w H s Q u s':=
  λ{Y H' v u} J rv q=>#[v,H',J.os,J.bare,J.base,J.hok,rv,q]
 cases fl with
 |ret u=>
  let(v,Y,H',J,rv,q):=hs
  show fin J rv q
 |next=>
  let(Y,H',J,q):=hs
  show fin (v:=V.non) J rfl q
 |brk=>
  let(_,_,_,q):=hs
  show False.elim q
 |cont=>
  let(_,_,_,q):=hs;show False.elim q
end L2
namespace L2
open PySem PySem.Spec PyProof.Rows
section
variable {X:Cx}{x:Str}{p pos:Pos}{e:Expr}{es:L Expr}{t:TA}{id T:String}{r:L V->Hp->VK->Prop}
def Ad(r:L V->Hp->VK->Prop)(t:TA):=(λσ H Q=>t σ H λvs H1=>r vs H1 Q:TE)
def FS(hc:sJ X (.builtin id) r)(O:Gl X x)(hm:X.mg x=none)(hv:oB x>.builtin id)(ha:PA X (e::es) t)(hn:x ≠ "__name__":=by decide)(z:(x==("__debug__" : Str))=false:=by decide)
  (he:F7 (e::es) X.env=(false,eval e X.env)::F7 es X.env:=by rfl) (J:(N4 pos<|F7 es X.env).any (·.1)=false:=by rfl):PE X (.Call (.Name x p) (e::es) [] pos) (Ad r t):=by
 intro pins s σ H Q I h;refine bF<|gY I O hm hv ?_ hn z;show PyProof.Rows.callWith_builtin1 (iD (ha _ _ s σ H _ I h) λus s1 ⟨vs,H1,I1,r1,q1⟩=>hc _ s1 σ H1 vs us Q I1 r1 q1) he J
def Bz(hc:sJ X (.type T) r)(O:Gl X x)(hm:X.mg x=none)(hv:oB x>.type T)(ha:PA X (e::es) t)(hn:x ≠ "__name__")(z:(x==("__debug__" : Str))=false)
  (he:F7 (e::es) X.env=(false,eval e X.env)::F7 es X.env) (J:(N4 pos<|F7 es X.env).any (·.1)=false):PE X (.Call (.Name x p) (e::es) [] pos) (Ad r t):=by
 intro pins s σ H Q I h;refine bF<|gY I O hm hv ?_ hn z;show PyProof.Rows.callWith_type1 (iD (ha _ _ s σ H _ I h) λus s1 ⟨vs,H1,I1,r1,q1⟩=>hc _ s1 σ H1 vs us Q I1 r1 q1) he J
end
end L2
namespace HT
open PySem PyProof.Rows
section
open PySem.SeqAt
open PySem.AutoSeq1 (wpAny_loadPart')
open PySem.MeetsSeq PySem.MeetsSeq2 PySem.MeetsSeq3
end
section
variable {prog:F6}{w:F9}{A:F8}{E:jD}{s:F2}
def zSo{vs ws:L F3}{Q:jD}(ht:bQ s.heap t vs.toArray)(hb:bQ s.heap b ws.toArray)(hv:vs≠[])(h1:ws=[]->Q (.ref t) s)(h2:ws≠[]->Q (.ref s.heap.objs.size) { s with heap:=s.heap.push { cls:=.type "tuple",data:=.seq (vs++ws).toArray } })(hsz:vs.length+ws.length<=sizeLine):F5 (F4 prog w) A (N8 .Add (.ref t)<|.ref b) Q E s:=by
 let((cls,dd,data,sl),O,hc,n,hd):=id ht;let((vZ,Vk,data2,Xk),J,U,Y,z):=id hb;simp at hc hd U z;subst hc hd U z;have e:vs.toArray++ws.toArray=(vs++ws).toArray:=by simp
 by_cases hw:ws=[]
 .show WK #[_,O,rfl] #[_,J,rfl] WL rP uG lG (YF _ _)
   (tuple_addW1 t b _ _ n Y dd _ sl _ ‹hv›<|by simp[hw]) #[O,J,h1 hw]
 .refine WK #[_,O,rfl] #[_,J,rfl] WL rP uG lG (YF _ _)
   (tuple_addW2 t b _ _ n Y dd _ sl _ ‹hv› ‹hw›<|by show hsz) #[O,J,?_]
  rw[e];show h2 hw
noncomputable def YE(n d:Nat):Op Int->Nat
 |none=>d
 |some v=>if v<0 then (v+(n:Int)).toNat else min v.toNat n
def zMO(v:Int)(n d:Nat):(if v<0 then max (v+(n:Int)) 0 else min v (n:Int))=((YE n d (some v):Nat):Int):=by
 change(if v<0 then max _ 0 else min v n)=((if v<0 then (v+(n:Int)).toNat else min v.toNat n):Nat)
 grind
def zLD(lo hi:Op Int)(n:Nat):mF lo hi 1 (n:Int)=(((YE n 0 lo:Nat):Int),((YE n n hi:Nat):Int)):=by
 have h1:=01
 unfold mF;refine Prod.ext ?_ ?_
 .cases lo with
  |none=>rfl
  |some v=>show zMO v n 0
 .cases hi with
  |none=>rfl
  |some v=>show zMO v n n
def zLE(i j:Nat):nF (i:Int) (j:Int) 1=j-i:=by
 unfold nF
 grind
def jn{Q:Op Int->F2->Prop}(p:IsPart v o)(h:Q o s):F5 (F4 prog w) A (O8 v) Q E s:=by
 cases p with
 |none=>show slicePart_none h
 |int i t=>show slicePart_int h
def Xy{Y:Addr}{O U:F3}{lo hi:Op Int}{n:Nat}{Q:Int×Int×Nat->F2->Prop}(hs:s.heap.IsSliceOf Y O U .none)(pl:IsPart O lo)(pu:IsPart U hi)
  (h:Q (((YE n 0 lo:Nat):Int),1,YE n n hi-YE n 0 lo) s):F5 (F4 prog w) A (M8 (.ref Y)<|pure (n:Int)) Q E s:=by
 let(os,z,DX,J):=id hs;refine Ee<|Ee<|aj z J (x:=O) rfl<|Ee<|aj z J (x:=U) rfl<|Ee<|aj z J (x:=.none) rfl<|F1 ?_;refine Ee<|slicePart_none ?_;refine Ee<|jn pl<|Ee<|jn pu<|Ee<|F1 ?_;change F5 _ _ (match mF lo hi 1 n with|(lo,hi)=>pure (lo,(1:Int),nF lo hi 1)) _ _ s;rw[zLD lo hi n];change F5 _ _ (pure _) _ _ s;rw[zLE];show F1 h
def zPK(xs:Array F3)(i k:Nat):((DA k).filterMap λ(m:Nat)=>xs[((i:Int)+(m:Int)*1).toNat]?).toArray=((xs.toList.drop i).take k).toArray:=by
 have e:(λ(m:Nat)=>xs[((i:Int)+m*1).toNat]?)=λm=>xs[i+m]?:=by grind
 rw[e];have:=pick_run xs i k;rw[List.filterMap_map]at this;have z:((λx=>xs[x]?)∘λx=>i+x)=λm=>xs[i+m]?:=rfl
 rw[z]at this;rw[this]
def zDe{t J:Addr}{items:Array F3}{O U:F3}{lo hi:Op Int}{Q:jD}(z:bQ s.heap t items)(hs:s.heap.IsSliceOf J O U .none)(pl:IsPart O lo)(pu:IsPart U hi)
  (hw:¬ (YE items.size 0 lo=0/\YE items.size items.size hi=items.size))
  (h:Q (.ref s.heap.objs.size) { s with heap:=s.heap.push { cls:=.type "tuple",data:=.seq ((items.toList.drop<|YE items.size 0 lo).take<|YE items.size items.size hi-YE items.size 0 lo).toArray } })
  (hsz:items.size<=sizeLine):F5 (F4 prog w) A (br (.ref t)<|.ref J) Q E s:=by
 have W0:sizeOk (.seq ((items.toList.drop<|YE items.size 0 lo).take<|YE items.size items.size hi-YE items.size 0 lo).toArray):=by
  change((items.toList.drop<|YE items.size 0 lo).take _).toArray.size<=sizeLine;rw[IA,CG,DJ,vB];omega
 let(os,LJ,Y,TZ):=id hs;have Hy:s.TypeIs (.ref J) "slice":=#[os,LJ,Y]
 unfold br
 try with_reducible refine K3 ?_
 refine Ee (wpAny_sequenceKey z.typeIs 02 ?_)
 refine Ee (wpAny_callSpecial?_slot z.typeIs PyProof.Rows.slot_tuple_getitem
  (K1 PyProof.Rows.slot_tuple_getitem z.typeIs entry_tuple_getitem ?_<|args_tuple_getitem _ _))
 change F5 _ _ (fI (.ref t) >>= _) _ _ s;refine Ee<|tupleItemsOf_ z ?_;refine Ee<|ao Hy ?_;refine Ee<|Xy hs pl pu ?_
 have QV:¬ (((YE items.size 0 lo:Int)==0&&(1:Int)==1&&(YE items.size items.size hi-YE items.size 0 lo)==items.size)=true):=by
  intro q;rw[XB,XB]at q;have q1:=eq_of_beq q.1.1;have q2:=eq_of_beq q.2;show hw #[01,01]
 change F5 _ _ (if ((YE items.size 0 lo:Int)==0&&(1:Int)==1&&(YE items.size items.size hi-YE items.size 0 lo)==items.size)=true then _ else _) _ _ s;rw[if_neg QV,zPK]
 first
  |show Ee (K2 (F1 #[_,rfl,F1 h]) W0)
  |show Ee _
  |show Ee _
  |show Ee _
end
end HT
namespace L2
open PySem PySem.Spec PyProof.Rows
abbrev TO:=St->Hp->(Op Int->Hp->Prop)->Prop
noncomputable def PO(X:Cx)(e:Op Expr)(t:TO):Prop:=
 ∀(pins:IE)(s:F2)(σ:St)(H:Hp)(Q:Op Int->Hp->Prop),Inv X pins σ H s->t σ H Q ->
  F5 (F4 X.prog X.w) X.A (evalPart e X.env) (λu s'=>∃o H',Inv X pins σ H' s'/\IsPart u o/\Q o H') X.xe s
def zSp:=(λ_ H Q=>Q none H:TO)
def M5(t:TE):=(λσ H Q=>t σ H λx H1=>∃i,x=.int i/\Q (some i) H1:TO)
def Zr{ns:L Int}:∀{us:L F3},zl (ns.map V.int) us->NK us ns:=by
 induction ns with
 |nil=>intro us r;cases r;show .nil
 |cons n ns ih=>
  intro us r
  cases r with
  |cons r1 r2=>
   let(t,e):=r1;subst e;show .cons n t<|ih r2
section
variable {X:Cx}{e:Expr}{te:TE}{lo hi:Op Expr}{tl th:TO}{pos p2:Pos}
def zSq:PO X none zSp:=by
 intro pins s σ H Q I h;show F1 #[none,H,I,.none,h]
def zSr(h:PE X e te):PO X (some e) (M5 te):=by
 intro pins s σ H Q I hw;refine iD (h _ s σ H _ I hw) λu s1 zz=>?_
 let(x,H1,I1,r1,q1):=zz;let(i,rfl,q):=q1;let(t,rfl):=r1;show#[some i,H1,I1,.int i t,q]
noncomputable def i9(X:Cx)(r:V->Op Int->Op Int->Hp->VK->Prop):Prop:=
 ∀(pins:IE)(s:F2)(σ:St)(H:Hp)(x:V)(v vl vu:F3)(lo hi:Op Int)(sl:Addr)(Q:VK),Inv X pins σ H s->z9 x v->s.heap.IsSliceOf sl vl vu .none->IsPart vl lo->IsPart vu hi->r x lo hi H Q ->
  ∃T id,WJ (.type T) "__getitem__" = pure (some<|.builtin id)/\s.TypeIs v T/\F5 (F4 X.prog X.w) X.A (br v<|.ref sl) (EP X pins σ Q) X.xe s
def tSl(r:V->Op Int->Op Int->Hp->VK->Prop)(te:TE)(tl th:TO):=(λσ H Q=>te σ H λx H1=>tl σ H1 λl H2=>th σ H2 λu H3=>r x l u H3 Q:TE)
def zJo{r:V->Op Int->Op Int->Hp->VK->Prop}(hr:i9 X r)(he:PE X e te)(hl:PO X lo tl)(hu:PO X hi th):PE X (.Subscript e (.Slice lo hi none p2) pos) (tSl r te tl th):=by
 intro pins s σ H Q I h;refine tX (iD (he _ s σ H _ I h) λv s1 zz=>?_);let(x,H1,I1,r1,q1):=zz;refine wpAny_Slice (iD (hl _ s1 σ H1 _ I1 q1) λJ s2 ⟨l,H2,I2,pl,q2⟩=>iD (hu _ s2 σ H2 _ I2 q2) λO s3 zz=>?_);let(u,z,U,pu,q3):=zz;refine F1 ?_;have Y:Inv X _ σ z { s3 with heap:=s3.heap.push { cls:=.type "slice",data:=.fields [J,O,.none].toArray } }:=U.kept λb ob q=>jA _ q
 let(T,id,hT,ht,hg):=hr _ _ σ z x v J O l u s3.heap.objs.size Q Y r1 (NY ..) pl pu q3;show tail_any ht hT hg<|rfl
def CY(xs:L V)(lo hi:Op Int):=((xs.drop<|HT.YE xs.length 0 lo).take<|HT.YE xs.length xs.length hi-HT.YE xs.length 0 lo:L V)
def Zm(xs:L V)(lo hi:Op Int):(CY xs lo hi).length<=xs.length:=by
 unfold CY;rw[CG,DJ];omega
noncomputable def Kq(K:Fg):V->Op Int->Op Int->Hp->VK->Prop:=λx lo hi H Q=>∃a xs,x=.ref a/\HI K H a xs /\
 ¬ (HT.YE xs.length 0 lo=0/\HT.YE xs.length xs.length hi=xs.length)/\∀p,H p=none->Q (.ref p) (upd H p<|.tup<|CY xs lo hi)
def zWK:i9 X (Kq X.K):=by
 intro pins s σ H x v vl vu lo hi Y Q I U hs pl O h;let(a,xs,rfl,hx,hw,q):=h;cases U;let(its,r,J,hz):=I.tuple hx;have z:its.toArray.size=xs.length:=by show r.length.symm
 refine#["tuple",_,PyProof.Rows.slot_tuple_getitem.lookup,J.typeIs,?_];refine HT.zDe J hs pl O (by rw[z];show hw) ?_ (by rw[z];show hz);rw[z];refine#[.ref _,_,I.laid (λb ob q=>jA _ q) (wA _) ?_,rfl,q _<|I.hok.fresh<|wA _];show#[JA (Zm xs lo hi) hz,_,(r.drop _).take _,QO.new _ _]
noncomputable def Z2(K:Fg):R2:=λx y H Q=>∃a b xs ys,x=.ref a/\y=.ref b/\HI K H a xs/\HI K H b ys/\xs≠[]/\xs.length+ys.length<=sizeLine /\
 (ys=[]->Q (.ref a) H)/\(ys≠[]->∀p,H p=none->Q (.ref p) (upd H p<|.tup<|xs++ys))
def zl.nil_iff(r:zl xs us):us=[]↔xs=[]:=by
 cases r with
 |nil=>simp
 |cons _ _=>simp
def zSs:UH X (N8 .Add) (Z2 X.K):=by
 intro pins s σ H x y v u Q I O U h;let(a,b,xs,ys,rfl,rfl,ha,hb,hx,hz,q1,J):=h;cases O;cases U;let(its,r1,p1,_):=I.tuple ha;let(Y,r2,p2,_):=I.tuple hb;refine HT.zSo p1 p2 (λz=>hx<|r1.nil_iff.mp z) (λz=>#[.ref a,H,I,rfl,q1<|r2.nil_iff.mp z]) (λz=>?_) (by rw[<- r1.length,<- r2.length];show hz);refine#[.ref _,_,I.laid (λb ob q=>jA _ q) (wA _) ?_,rfl,J (λw=>z<|r2.nil_iff.mpr w) _<|I.hok.fresh<|wA _];show#[by simp_all,_,r1.append r2,QO.new _ _]
end
end L2
namespace L2
open PySem PySem.Spec PyProof.Rows
noncomputable def WG(n:Nat)(i:Int):Op Nat:=if 0<=i then (if i<n then some i.toNat else none) else if -(n:Int)<=i then some (i+n).toNat else none
def EF{α:Type}(xs:L α)(i:Int):=((WG xs.length i).bind λj=>xs[j]?:Op α)
def zMP(h:WG n i>j):YL i n>j/\j<n/\-(n:Int)<=i/\i<n:=by
 unfold WG at h;by_cases h0:0<=i
 .rw[if_pos h0]at h;by_cases h1:i<n
  .rw[if_pos h1]at h;have e:=KB h;show#[by rw[seqIndex_of h0 h1,e],01,01,h1]
  simp_all
 .rw[if_neg h0]at h;by_cases h1 : -n<=i
  .rw[if_pos h1]at h;have e:=KB h;show#[by rw[seqIndex_neg 01 h1,e],01,h1,01]
  simp_all
def Ql{z:Type}{xs:L z}{i:Int}{v:z}(h:EF xs i>v):∃j,YL i xs.length>j/\xs[j]?>v/\j<xs.length/\-(xs.length:Int)<=i/\i<xs.length:=by
 unfold EF at h
 cases e:WG _ i with
 |none=>rw[e]at h;cases h
 |some j=>
  rw[e]at h;let(h1,h2,h3,J):=zMP e;show#[j,h1,h,h2,h3,J]
noncomputable def YQ(X:Cx)(r:R2):Prop:=
 ∀(value slice:Expr)(pins:IE)(s:F2)(σ:St)(H:Hp)(x y:V)(v u:F3)(Q:VK),Inv X pins σ H s->z9 x v->z9 y u->r x y H Q ->
  et slice false v u=operate [v,u] (br v u)->F5 (F4 X.prog X.w) X.A (subscriptTail value slice v u) (EP X pins σ Q) X.xe s
noncomputable def eZ(X:Cx)(id:String)(r:V->L V->Hp->VK->Prop):Prop:=
 ∀(pins:IE)(s:F2)(σ:St)(H:Hp)(x:V)(xs:L V)(v:F3)(us:L F3)(Q:VK),Inv X pins σ H s->z9 x v->zl xs us->r x xs H Q ->
  F5 (F4 X.prog X.w) X.A (call (.builtin id) (v::us)) (EP X pins σ Q) X.xe s
section
variable {X:Cx}{a b:Expr}{ta tb:TE}{pos:Pos}
def YQ.or(h:YQ X r)(h':YQ X r'):YQ X (λx y H Q=>r x y H Q\/r' x y H Q):=by
 intro value slice pins s σ H x y v u Q I z J q hs;rcases q with q|q
 .show h _ _ _ s σ H x y v u Q I z J q hs
 .show h' _ _ _ s σ H x y v u Q I z J q hs
def U2(hr:YQ X r)(ha:PE X a ta)(hb:PE X b tb)(hs:yo b):PE X (.Subscript a b pos) (pW r ta tb):=by
 intro pins s σ H Q I h;show tX (tV ha hb I h λv u s2 x y H2 I2 z J q=>hr a b _ s2 σ H2 x y v u Q I2 z J q<|hs _ _)
def A3(K:Fg):=(λx y H Q=>∃p xs i v,x=.ref p/\y=.int i/\vF K H p xs/\EF xs i>v/\Q v H:R2)
def C3(K:Fg):=(λx y H Q=>∃p xs i v,x=.ref p/\y=.int i/\HI K H p xs/\EF xs i>v/\Q v H:R2)
def B3:=(λx y H Q=>∃z i c,x=.str z/\y=.int i/\z.length<=sizeLine/\EF z.cps.toList i>c/\Q (.str #[[c].toArray]) H:R2)
def zSt:YQ X (A3 X.K):=by
 intro value slice pins s σ H x y v u Q I Y ry h hs;let(p,xs,i,z,rfl,rfl,hq,he,q):=h;cases Y;let(t,rfl):=ry;let(its,r,pl,hz):=I.list hq;let(j,h1,h2,h3,O,U):=Ql he;let(w,J,rw'):=r.get h2;have hl:=r.length;have hn:=IW;have fin:EP X _ σ Q w s:=#[z,H,I,rw',q]
 by_cases h0:0<=i
 .have hj:=by
   rw[seqIndex_of h0 U]at h1;show KB h1
  show item_listR pl.isList h0 01 (by rw[hj];simpa using J) fin hs
 .have hj:(i+its.toArray.size).toNat=j:=by
   rw[seqIndex_neg 01 O]at h1;rw[IA,<- hl];show KB h1
  show XQ pl.isList.typeIs slot_list_getitem.lookup
   (wpAny_getItem_list_neg pl.isList 01 (by rw[IA]<;>omega) 01 (by rw[hj];simpa using J) #[rfl,fin]) hs
def zWL:YQ X (C3 X.K):=by
 intro value slice pins s σ H x y v u Q I O U h hs;let(p,xs,i,z,rfl,rfl,hq,he,q):=h;cases O;let(t,rfl):=U;let(its,r,pl,hz):=I.tuple hq;let(j,h1,h2,h3,Y,h5):=Ql he;let(w,J,rw'):=r.get h2;have hl:=r.length;have hn:=IW;have fin:EP X _ σ Q w s:=#[z,H,I,rw',q]
 show XQ pl.typeIs slot_tuple_getitem.lookup
  (getItem_tuple pl 01 01 (by rw[IA,<- hl];show h1) ‹J› #[rfl,fin]) hs
def zWM:YQ X B3:=by
 intro value slice pins s σ H x y v u Q I Y ry h hs;let(z,i,c,rfl,rfl,hz,he,q):=h;let(t,rfl):=Y;let(t',rfl):=ry;let(j,h1,h2,h3,O,U):=Ql he;have hl:z.cps.toList.length=z.length:=by simp[lE]
 rw[hl]at h1 O U;have hn:=IW
 show tail_any (typeIs_str s z t) slot_str_getitem.lookup (getItem_str (c:=c) (by
  have e1:decide (i < -(2 ^ 63:Int))=false:=decide_eq_false 01;have J:decide (i>=2 ^ 63)=false:=decide_eq_false 01;rw[e1,J,dI]) (by rw[h1];simpa using h2) #[.str #[[c].toArray],H,I.tok _,#[_,rfl],q]) hs
def rIx(K:Fg):=(λx y H Q=>A3 K x y H Q\/C3 K x y H Q\/B3 x y H Q:R2)
def Rt:YQ X (rIx X.K):=zSt.or<|zWL.or zWM
def zLF(its:L F3)(n j:Nat)(u:F3):GI (·.setIfInBounds j u) { cls:=.type "list",data:=.seq its.toArray n }={ cls:=.type "list",data:=.seq (its.set j u).toArray n }:=by
 simp[GI]
def Inv.lst{s:F2}(I:Inv X pins σ H s)(h:H p>.lst xs):
  ∃(its:L F3)(n:Nat),zl xs its/\s.heap.get? p>{ cls:=.type "list",data:=.seq its.toArray n }/\xs.length<=sizeLine:=by
 let(z,its,n,r,e):=I.hok p _ h;show#[its,n,r,e,z]
def Inv.lstUpd{s:F2}{xs ys:L V}{its z:L F3}{f:Obj->Obj}(I:Inv X pins σ H s)(h:H p>.lst xs)(J:s.heap.get? p>{ cls:=.type "list",data:=.seq its.toArray n })(hf:f { cls:=.type "list",data:=.seq its.toArray n }={ cls:=.type "list",data:=.seq z.toArray n' })(r:zl ys z)(hz:ys.length<=sizeLine)(t:Nat):
  Inv X pins σ (upd H p<|.lst ys) { s with heap:=s.heap.update p f,toks:=t }:=by
 have e:(s.heap.update p f).get? p>{ cls:=.type "list",data:=.seq z.toArray n' }:=by
  rw[aC f J (by rw[hf]<;>rfl),hf]
 refine I.write (by rw[h];trivial) (.inl rfl) (λb u hb q=>(lC _ _<|Ne.symm hb).trans q) #[_,e] ?_;show#[hz,z,n',r,e]
def E3:=(λo i v H Q=>∃p xs k j,o=.ref p/\i=.int k/\H p>.lst xs/\WG xs.length k>j/\Q (upd H p<|.lst<|xs.set j v):V->V->V->Hp->(Hp->Prop)->Prop)
def Oy:hZ X E3:=by
 intro pins s σ H o i v ov iv u Q I ro U Y h;let(p,xs,k,j,rfl,rfl,hp,hj,q):=h;cases ro;let(t,rfl):=U;let(its,n,r,z,hz):=I.lst hp;let(h1,h2,h3,O):=zMP hj;have hl:=r.length;have hn:=IW
 have J:=
  I.lstUpd hp z (zLF _ n j u) (r.set Y j) (by rw[cH];show hz) s.toks
 by_cases h0:0<=k
 .have hk:k.toNat=j:=by
   rw[seqIndex_of h0 O]at h1;show KB h1
  show PySem.W.ki_setAt z h0 01 (by rw[IA,<- hl];show O) (by rw[hk];show#[_,J,q])
 .have hk:(k+its.toArray.size).toNat=j:=by
   rw[seqIndex_neg 01 h3]at h1;rw[IA,<- hl];show KB h1
  show PySem.W.ki_setBack z 01 (by rw[IA,<- hl];show h3) 01 (by rw[hk];show#[_,J,q])
def zHb(lo hi:Op Int)(n:Nat):(bg lo hi none n).1=((HT.YE n 0 lo:Nat):Int)/\(bg lo hi none n).2.1=((HT.YE n n hi:Nat):Int)/\(bg lo hi none n).2.2=1:=by
 refine#[?_,?_,rfl]
 .cases lo with
  |none=>simp[bg,HT.YE]
  |some i=>
   dsimp[bg,HT.YE,RI,show GT.gt (1:Int) 0 by decide,if_true];by_cases h:i<0
   .dsimp[h,if_true]<;>omega
   .dsimp[h,if_false]<;>omega
 .cases hi with
  |none=>simp[bg,HT.YE]
  |some i=>
   dsimp[bg,HT.YE,RI,show GT.gt (1:Int) 0 by decide,if_true];by_cases h:i<0
   .dsimp[h,if_true]<;>omega
   .dsimp[h,if_false]<;>omega
def zGY(its:L F3)(lo hi:Op Int):slicePick its.toArray lo hi none=((its.drop<|HT.YE its.length 0 lo).take<|HT.YE its.length its.length hi-HT.YE its.length 0 lo).toArray:=by
 let(h1,h2,h3):=zHb lo hi _;unfold slicePick;rw[h1,h2,h3];dsimp[sliceRange_one,pick_run]<;>rfl
def Kp(K:Fg):=(λx lo hi H Q=>∃a xs,x=.ref a/\vF K H a xs/\∀p,H p=none->Q (.ref p) (upd H p<|.lst<|CY xs lo hi):V->Op Int->Op Int->Hp->VK->Prop)
def zSu:i9 X (Kp X.K):=by
 intro pins s σ H x v vl vu lo hi Y Q I U hs pl O h;let(a,xs,rfl,hx,q):=h;cases U;let(its,r,J,hz):=I.list hx;have z:=r.length;refine#["list",_,slot_list_getitem.lookup,J.isList.typeIs,?_];refine wpAny_getItem_list_slice J.isList hs pl O .none (by simp) ?_ (by grind);rw[zGY,<- z];refine#[.ref _,_,I.laid (λb ob q=>jA _ q) (wA _) ?_,rfl,q _<|I.hok.fresh<|wA _];show#[JA (Zm xs lo hi) hz,_,0,(r.drop _).take _,rA _ rfl]
def Zf:sJ X (.builtin "len") (λxs H Q=>∃p ys,xs=[.ref p]/\(vF X.K H p ys\/HI X.K H p ys)/\Q (.int ys.length) H):=by
 intro pins s σ H xs us Q I r h;let(p,ys,rfl,hq,q):=h;let(u,rfl,O):=JN r;cases O;have hn:=IW;rcases hq with hq|hq
 .let(its,J,pl,hz):=I.list hq;have z:=J.length;show Calls.call_len_list pl.isList (by dsimp[IA]<;>omega) #[.int _,H,I.tok _,#[s.toks+1,by rw[IA,z]],q]
 .let(its,J,pl,hz):=I.tuple hq;have z:=J.length;show len_tuple pl (by dsimp[IA]<;>omega) #[.int _,H,I.tok _,#[s.toks+1,by rw[IA,z]],q]
def zHc:sJ X (.builtin "len") (λxs H Q=>∃z,xs=[.str z]/\z.length<=sizeLine/\Q (.int z.length) H):=by
 intro pins s σ H xs us Q I r h;let(z,rfl,hz,q):=h;let(u,rfl,t,rfl):=JN r;have hn:=IW;show len_str 01 #[.int _,H,I.tok _,#[_,rfl],q]
def Yo:sJ X (.type "list") (λxs H Q=>∃p ys,xs=[.ref p]/\(vF X.K H p ys\/HI X.K H p ys)/\∀l,H l=none->Q (.ref l) (upd H l<|.lst ys)):=by
 intro pins s σ H xs us Q I r h;let(p,ys,rfl,hq,q):=h;let(u,rfl,Y):=JN r;cases Y
 have fin:∀(its:L _),zl ys _->ys.length<=sizeLine->∀(h':Heap)(J:Nat),(∀b o',s.heap.get? b>o'->h'.get? b>o') ->
   h'.get? _>_->EP X _ σ Q _ _:=λits z hz h' J kp e=>
  #[.ref _,_,I.laid (t':=s.toks) kp (wA _)<|show qA _ _ _ h' _ (.lst ys) from#[hz,its,J,z,e],rfl,q _<|I.hok.fresh<|wA _]
 rcases hq with hq|hq
 .let(its,z,pl,hz):=I.list hq;have O:=z.length;let(o,U,hc,n,hd):=pl.isList;show call_list_seq p (.inl rfl) U hc hd (λh' J kp e=>fin _ z hz h' J kp e) (by grind)
 .let(its,z,pl,hz):=I.tuple hq;have O:=z.length;let(o,U,hc,n,hd):=pl;show call_list_seq p (.inr rfl) U hc hd (λh' J kp e=>fin _ z hz h' J kp e) (by grind)
def Yn:sJ X (.type "tuple") (λxs H Q=>∃p ys,xs=[.ref p]/\((vF X.K H p ys/\∀l,H l=none->Q (.ref l) (upd H l<|.tup ys))\/(HI X.K H p ys/\Q (.ref p) H))):=by
 intro pins s σ H xs us Q I r h;obtain⟨p,ys,rfl,h⟩:=h;obtain⟨u,rfl,O⟩:=JN r;cases O;rcases h with⟨hq,q⟩|⟨hq,q⟩
 .obtain⟨its,z,pl,hz⟩:=I.list hq;have J:=z.length;refine call_tuple_list pl.isList (λh' kp=>?_) (by grind);have I1:=I.kept (t':=s.toks) kp
  have I2:=
   I1.laid (t':=s.toks) (λb o e=>jA _ e) (wA _) (show qA _ _ _ _ _ (.tup ys) from#[hz,its,z,QO.new _ _])
  show#[.ref _,_,I2,rfl,q _<|I1.hok.fresh<|wA _]
 .obtain⟨its,z,pl,hz⟩:=I.tuple hq;show call_tuple_same pl #[.ref p,H,I,rfl,q]
noncomputable def Ma(K:Fg)(T:String)(x:V)(H:Hp):Prop:=match x with
 |.str _=>T = "str"
 |.int _=>T = "int"
 |.ref p=>(T = "list"/\∃xs,vF K H p xs)\/(T = "tuple"/\∃o,K.lookup p>o/\o.cls=.type "tuple"/\o.dict=none) \/
   (T = "dict"/\((∃kvs,H p>.dK kvs)\/∃kvs,H p>.dT kvs))\/(T = "set"/\∃S n,H p>.set S n)
 |_=>False
def zRh{s:F2}(I:Inv X pins σ H s)(r:z9 x v)(ty:Ma X.K T x H):
  s.TypeIs v T/\∀a,v=.ref a->∃ob,s.heap.get? a>ob/\ob.dict=none:=by
 cases x with
 |str z=>
  let(t,rfl):=r;cases (show T = "str" from ty)
  show#[typeIs_str s z t,λ_ e=>nomatch e]
 |int i=>
  let(t,rfl):=r;cases (show T = "int" from ty)
  show#[typeIs_int s i t,λ_ e=>nomatch e]
 |ref p=>
  cases r;rcases ty with⟨rfl,xs,hq⟩|⟨rfl,o,hk,hc,hd⟩|⟨rfl,hk⟩|⟨rfl,S,n,hk⟩
  .let(its,_,pl,_):=I.list hq;refine#[pl.isList.typeIs,λa e=>?_];cases e;let(o,n,e,c,hd,_):=pl;show#[o,e,hd]
  .refine#[#[o,I.kIn p o hk,hc],λa e=>?_];cases e;show#[o,I.kIn _ o hk,hd]
  .have z:∃o,s.heap.get? p>o/\o.ExactDict:=by
    rcases hk with⟨kvs,hk⟩|⟨kvs,hk⟩
    .let(_,_,_,_,o,_,_,e,ex,_):=I.hok p _ hk;show#[o,e,ex]
    .let(_,_,_,_,o,_,_,e,ex,_):=I.hok p _ hk;show#[o,e,ex]
   let(o,e,ex):=z;refine#[#[o,e,ex.1],λa J=>?_];cases J;show#[o,e,ex.2.1]
  .let(o,_,_,_,e,ex,_):=I.hok p _ hk;refine#[#[o,e,ex.1],λa J=>?_];cases J
   show#[o,e,ex.2.1]
 |_=>show False.elim ty
def Li(K:Fg)(T:String)(r:V->L V->Hp->VK->Prop)(to:TE):=(λσ H Q=>to σ H λx H1=>Ma K T x H1/\r x [] H1 Q:TE)
def tBM(K:Fg)(T:String)(r:V->L V->Hp->VK->Prop)(to:TE)(t:TA):=(λσ H Q=>to σ H λx H1=>Ma K T x H1/\t σ H1 λxs H2=>r x xs H2 Q:TE)
variable {o e:Expr}{es:L Expr}{to:TE}{t:TA}{name:Str}{apos gB:Pos}{T id:String}{r:V->L V->Hp->VK->Prop}
def zRi(pa:PlainAttrs T)(slot:Slot T name id)(O:cn (.builtin id)=pure (.type "method_descriptor"))(hm:eZ X id r)(U:PE X o to)
  (z:RF o name X.env (eval o X.env)=eval o X.env) (J:(apos.endLine==gB.line)=true):PE X (.Call (.Attribute o name apos) [] [] gB) (Li X.K T r to):=by
 intro pins s σ H Q I h;refine wpAny_Call_method0_late z J (iD (U _ s σ H _ I h) λv s1 zz=>?_);let(x,H1,I1,r1,ty,q1):=zz;let(h1,h2):=zRh I1 r1 ty;show#[T,id,pa,slot,O,h1,h2,HG rfl<|PySem.evalArgs_none<|hm _ s1 σ H1 x [] v [] Q I1 r1 .nil q1]
def UO(pa:PlainAttrs T)(slot:Slot T name id)(Y:cn (.builtin id)=pure (.type "method_descriptor"))(hm:eZ X id r)(ho:PE X o to)(ha:PA X (e::es) t)
  (J:RF o name X.env (eval o X.env)=eval o X.env)
  (U:((N4 gB<|F7 (e::es) X.env).all (λx=>!x.1)&&(T5 gB<|N0 [] X.env).all (λx=>x.1.isSome)
   && decide ((e::es).length+([]:L OK).length+(if ([]:L OK).isEmpty then 0 else 1)<30))=true)
  (O:(apos.endLine==gB.line)=true) (hs:F7 (e::es) X.env=(false,eval e X.env)::F7 es X.env) (wD:(N4 gB<|F7 es X.env).any (·.1)=false) :
  PE X (.Call (.Attribute o name apos) (e::es) [] gB) (tBM X.K T r to t):=by
 intro pins s σ H Q I h;refine wpAny_Call_method_late J U O rfl (iD (ho _ s σ H _ I h) λv s1 zz=>?_);let(x,H1,I1,r1,ty,q1):=zz;let(h1,h2):=zRh I1 r1 ty;refine#[T,id,pa,slot,Y,h1,h2,?_];have z:=ha gB _ s1 σ H1 _ I1 q1;rw[hs]at z ⊢;refine HG (by assumption)<|wH ?_;show iD z λus s2 ⟨vs,H2,I2,r2,q2⟩=>hm _ s2 σ H2 x vs v us Q I2 r1 r2 q2
end
end L2
namespace L2
open PySem PySem.Spec PyProof.Rows
noncomputable def dZ(X:Cx)(id:String)(r:V->L V->Hp->VK->Prop):Prop:=
 ∀(pins:IE)(s:F2)(σ:St)(H:Hp)(x:V)(xs:L V)(v:F3)(us:L F3)(Q:VK),Inv X pins σ H s->z9 x v->zl xs us->r x xs H Q ->
  F5 (F4 X.prog X.w) X.A (call (.builtin id) (v::us)) (EP X pins σ Q) X.xe s
def zl.one{x:V}{us:L F3}(h:zl [x] us):∃u,us=[u]/\z9 x u:=by
 cases h with
 |cons r t=>cases t;show#[_,rfl,r]
def zl.two{x y:V}{us:L F3}(h:zl [x,y] us):∃u v,us=[u,v]/\z9 x u/\z9 y v:=by
 cases h with
 |cons r t=>let(v,rfl,q):=zl.one t;show#[_,_,rfl,r,q]
theorem zl.zero:∀{us:L F3},zl [] us->us=[]
 |_,.nil=>rfl
def zl.dropLast{xs:L V}{us:L F3}(h:zl xs us):zl xs.dropLast us.dropLast:=by
 induction h with
 |nil=>show .nil
 |cons r t ih=>
  cases t with
  |nil=>show .nil
  |cons q t'=>show .cons r ih
theorem zl.eraseIdx:∀{xs:L V}{us:L F3}(i:Nat),zl xs us->zl (xs.eraseIdx i) (us.eraseIdx i)
 |_,_,_,.nil=>.nil
 |_,_,0,.cons _ t=>t
 |_,_,i+1,.cons r t=>.cons r<|zl.eraseIdx i t
theorem vq{z:Type}:∀(l:L z)(i:Nat),(l.eraseIdx i).length<=l.length
 | [],_=>wA _
 |_::_,0=>YC _
 |_::r,i+1=>JG<|vq r i
section
variable {X:Cx}{pins:IE}{σ:St}{H:Hp}{s:F2}{l b:Addr}{xs ys zs:L V}
def Inv.lset{its z:L F3}{f:Array F3->Array F3}{t':Nat}(I:Inv X pins σ H s)(hH:H l>.lst xs)(e:s.heap.get? l>{ cls:=.type "list",data:=.seq its.toArray n })(hf:f its.toArray=z.toArray)(hv:zl ys z)(hz:ys.length<=sizeLine):
  Inv X pins σ (upd H l<|.lst ys) { s with heap:=s.heap.update l<|GI f,toks:=t' }:=by
 have q:=PySem.IsL.update e f;rw[hf]at q;refine I.write (by rw[hH];show trivial) (.inl rfl) (λb' u hb J=>(lC _ _<|Ne.symm hb).trans J) #[_,q] ?_;show#[hz,z,_,hv,q]
def Inv.lnew{t':Nat}(I:Inv X pins σ H s)(hv:zl ys its)(hz:ys.length<=sizeLine):
  Inv X pins σ (upd H s.heap.objs.size<|.lst ys) { s with heap:=s.heap.push { cls:=.type "list",data:=.seq its.toArray },toks:=t' }:=
 I.laid (λ_ _ q=>jA _ q) (wA _) #[hz,its,0,hv,rA _ rfl]
def Inv.fresh(I:Inv X pins σ H s):H s.heap.objs.size=none:=I.hok.fresh<|wA _
def Inv.lstM(I:Inv X pins σ H s)(hH:H l>.lst xs):xs.length<=sizeLine/\∃(its:L F3)(n:Nat),zl xs its/\xs.length=its.length/\s.heap.get? l>{ cls:=.type "list",data:=.seq its.toArray n }:=by
 let(z,its,n,r,e):=I.hok l _ hH;show#[z,its,n,r,r.length,e]
def zPL(h:n<=sizeLine):NI n=false:=by
 show decide_eq_false 01
end
section
variable {X:Cx}
def zSv:=(λx vs H Q=>∃l xs y,x=.ref l/\vs=[y]/\H l>.lst xs/\xs.length<sizeLine/\Q .non (upd H l<|.lst<|xs++[y]):V->L V->Hp->VK->Prop)
def AW:dZ X "list.append" zSv:=by
 intro pins s σ H x vs v us Q I U O h;let(l,xs,y,rfl,rfl,hH,hz,q):=h;cases U;let(u,rfl,J):=O.one;let(z,its,n,r,hl,e):=I.lstM hH;refine MH F.slot_list_append #[_,e,rfl] F.entry_list_append (F.args_list_append_2 _ _) (PySem.list_append l _ n u<|by grind) #[e,?_];refine#[.non,_,I.lset hH e (by simp) (r.append<|.cons J .nil) ?_,rfl,q]
 grind
def zSw:=(λx vs H Q=>∃l b xs zs,x=.ref l/\vs=[.ref b]/\H l>.lst xs/\H b>.lst zs/\xs.length+zs.length<=sizeLine/\Q .non (upd H l<|.lst<|xs++zs):V->L V->Hp->VK->Prop)
def zMR:dZ X "list.extend" zSw:=by
 intro pins s σ H x vs v us Q I rx rv h;let(l,b,xs,zs,rfl,rfl,hH,Y,hz,q):=h;cases rx;let(u,rfl,ru):=rv.one;cases ru;let(z,its,n,r,hl,e):=I.lstM hH;let(z2,J,n2,r2,hl2,U):=I.lstM Y;have hsz:its.toArray.size+J.toArray.size<=sizeLine:=by grind
 have O:¬ (!its.toArray.isEmpty&&NI (its.toArray.size+J.toArray.size))=true:=by
  rw[zPL hsz,QU];show CB
 refine MH F.slot_list_extend #[_,e,rfl] F.entry_list_extend (F.args_list_extend_2 _ _)
  (AutoSeq1.list_extend_list_list_0 l _ n b _ n2 O (by grind)<|01) #[e,U,?_]
 refine#[.non,_,I.lset hH e (by simp) (r.append r2) ?_,rfl,q];rw[OA];omega
def Ko:=(λx vs H Q=>∃l xs y,x=.ref l/\vs=[]/\H l>.lst xs/\xs[xs.length-1]?>y/\Q y (upd H l<|.lst xs.dropLast):V->L V->Hp->VK->Prop)
def zWN:dZ X "list.pop" Ko:=by
 intro pins s σ H x vs v us Q I rx Y h;let(l,xs,y,rfl,rfl,hH,hy,q):=h;cases rx;have J:=Y.zero;subst J;let(z,its,n,r,hl,e):=I.lstM hH;let(u,hu,U):=r.get hy
 have O:=by
  change its.toArray[its.length-1]?>u
  simp_all
 refine MH MY #[_,e,rfl] lX (F.args_list_pop_1 _) (MeetsSeq.list_pop_last l _ n u O<|by simp_all) #[e,?_];refine#[y,_,I.lset hH e ?_ r.dropLast ?_,U,q]
 .simp_all
 .rw[UC];omega
def zWO:=(λx vs H Q=>∃l xs i k y,x=.ref l/\vs=[.int i]/\H l>.lst xs/\-(2 ^ 63)<=i/\i<2 ^ 63/\YL i xs.length>k/\xs[k]?>y/\Q y (upd H l<|.lst<|xs.eraseIdx k):V->L V->Hp->VK->Prop)
def zJp:dZ X "list.pop" zWO:=by
 intro pins s σ H x vs v us Q I U O h;let(l,xs,i,k,y,rfl,rfl,hH,h1,h2,hk,hy,q):=h;cases U;let(u,rfl,J):=O.one;let(t,rfl):=J;let(z,its,n,r,hl,e):=I.lstM hH;let(w,hw,rw'):=r.get hy
 refine MH MY #[_,e,rfl] lX (F.args_list_pop_2 _ _)
  (MeetsSeq.list_pop_at l _ n i t k w (fitsIndex_both h1 h2) (by rw[IA,<- hl];show hk) (by simp_all)<|by simp_all) #[e,?_]
 refine#[y,_,I.lset hH e ?_ (r.eraseIdx k) ?_,rw',q]
 .simp_all
 .have:=vq xs k;omega
end
section
variable {prog:F6}{w:F9}{A:F8}{E:jD}{s:F2}
end
section
variable {X:Cx}
end
end L2
namespace L2
open PySem PySem.Spec PyProof.Rows
section
variable {κ:Type}[DecidableEq κ]
noncomputable def gG(kvs:L (κ×V))(k:κ):Op V:=(kvs.find? λkv=>decide<|kv.1=k).map (·.2)
noncomputable def bI(kvs:L (κ×V))(k:κ)(v:V):L (κ×V):=
 if (kvs.any λkv=>decide<|kv.1=k)=true then kvs.map (λkv=>if kv.1=k then (kv.1,v) else kv) else kvs++[(k,v)]
def Cg{p:κ×V}(e:p.1=k):gG (p::r) k>p.2:=by simp[gG,e]
def V6{p:κ×V}(e:¬ p.1=k):gG (p::r) k=gG r k:=by simp[gG,e]
theorem Oz(k:κ):∀kvs:L (κ×V),(kvs.any λkv=>decide<|kv.1=k)=(gG kvs k).isSome
 | []=>rfl
 |p::r=>by
  rw[GE];by_cases e:p.1=k
  .dsimp[Cg e,decide_eq_true e,LY,BO]
  .rw[V6 e,decide_eq_false e];show Oz k r
def d6(kvs:L (κ×V))(k:κ)(v:V):(bI kvs k v).length<=kvs.length+1:=by
 unfold bI;split
 .simp_all
 simp_all
def Pa{kvs:L (κ×V)}(v:V)(h:gG kvs k=none):bI kvs k v=kvs++[(k,v)]:=by
 unfold bI;rw[Oz,h];simp
def DK.isSome_eq{o:Op V}{u:Op F3}(r:DK o u):o.isSome=u.isSome:=by
 cases o with
 |none=>cases u with
  |none=>rfl
  |some _=>show(r).elim
 |some _=>cases u with
  |none=>show(r).elim
  |some _=>rfl
def DK.getD{o:Op V}{u:Op F3}(r:DK o u)(J:z9 d d'):z9 (o.getD d) (u.getD d'):=by
 cases o with
 |none=>cases u with
  |none=>show J
  |some _=>show(r).elim
 |some _=>cases u with
  |none=>show(r).elim
  |some _=>show r
def KV.val(r:KV kvs vs)(k:κ):DK (gG kvs k) (dg vs k):=by
 induction r with
 |nil=>show True.intro
 |@cons p q ps qs h t ih=>
  let(h1,h2):=h;by_cases e:p.1=k
  .have e':=h1.symm.trans e;have b:dg (q::qs) k>q.2:=by simp[dg,e']
   rw[Cg e,b];show h2
  .have e':¬ q.1=k:=λz=>e (h1.trans z)
   have b:dg (q::qs) k=dg qs k:=by simp[dg,e']
   rw[V6 e,b];show ih
def KV.any{kvs:L (κ×V)}{vs:L (κ×F3)}(r:KV kvs vs)(k:κ):(kvs.any λkv=>decide<|kv.1=k)=vs.any λkv=>decide (kv.1=k):=by
 induction r with
 |nil=>rfl
 |cons h t ih=>simp_all
def KV.repl{kvs:L (κ×V)}{vs:L (κ×F3)}(r:KV kvs vs)(k:κ)(J:z9 y u):
  KV (kvs.map λkv=>if kv.1=k then (kv.1,y) else kv) (vs.map λkv=>if kv.1=k then (kv.1,u) else kv):=by
 induction r with
 |nil=>show .nil
 |@cons p q ps qs h t ih=>
  rw[kA,kA];refine .cons ?_ ih;let(h1,h2):=h;by_cases e:p.1=k
  .rw[if_pos e,if_pos<|h1.symm.trans e];show#[h1,J]
  .rw[if_neg e,if_neg<|λz=>e<|h1.trans z];show#[h1,h2]
def KV.put(r:KV kvs vs)(k:κ)(J:z9 y u):KV (bI kvs k y) (fj vs k u):=by
 unfold bI fj;rw[r.any k];by_cases e:(vs.any λkv=>decide<|kv.1=k)=true
 .rw[if_pos e,if_pos e];show r.repl k J
 .rw[if_neg e,if_neg e];show Paired.snoc r #[rfl,J]
def KV.length{kvs:L (κ×V)}{vs:L (κ×F3)}(r:KV kvs vs):kvs.length=vs.length:=Paired.length r
end
def MS(r:z9 (kV k) u):(zY P w).is k u=true:=by
 cases k with
 |inl i=>let(t,e):=(r);subst e;show zIk P w i t
 |inr x=>let(t,e):=(r);subst e;show zIl P w x t
def zWP(e:kV a=kV b):a=b:=by
 cases a with
 |inl i=>cases b with
  |inl j=>have e':=e;injection e' with e';rw[e']
  |inr y=>show nomatch (show V.int i=V.str y from e)
 |inr x=>cases b with
  |inl j=>show nomatch (show V.str x=V.int j from e)
  |inr y=>have e':=e;injection e' with e';rw[e']
theorem zMS:∀{a b:L kC},a.map kV=b.map kV->a=b
 | [],[],_=>rfl
 | [],_::_,e=>by simp at e
 |_::_,[],e=>by simp at e
 |x::xs,y::ys,e=>by
  injection e with e1 e2;rw[zWP e1,zMS e2]
theorem vt:∀{ks:L kC}{us:L F3},zl (ks.map kV) us->ItemsAre (zY P w) ks us
 | [],_,r=>by cases r;show .nil
 |k::ks,_,r=>by
  cases r with
  |cons h t=>show .cons (MS h)<|vt t
abbrev KT(H:Hp):L (L kC×V)->L (L kC×Addr×F3)->Prop:=fu λp q=>p.1=q.1/\H q.2.1>(.tup<|p.1.map kV)/\z9 p.2 q.2.2
def KT.val(r:KT H kvs xs)(k:L kC):DK (gG kvs k) ((ck xs k).map (·.2)):=by
 induction r with
 |nil=>show True.intro
 |@cons p q ps qs h t ih=>
  let(h1,_,h2):=h;by_cases e:p.1=k
  .have e':=h1.symm.trans e;have b:ck (q::qs) k>q.2:=by simp[ck,e']
   rw[Cg e,b];show h2
  .have e':¬ q.1=k:=λz=>e (h1.trans z)
   have b:ck (q::qs) k=ck qs k:=by simp[ck,e']
   rw[V6 e,b];show ih
def KT.repl{kvs:L (L kC×V)}{xs:L (L kC×Addr×F3)}(r:KT H kvs xs)(k:L kC)(J:z9 y u):
  KT H (kvs.map λkv=>if kv.1=k then (kv.1,y) else kv) (xs.map<|putAt k u):=by
 induction r with
 |nil=>show .nil
 |@cons p q ps qs h t ih=>
  rw[kA];refine .cons ?_ ih;let(h1,h2,h3):=h;unfold putAt;by_cases e:p.1=k
  .rw[if_pos e,if_pos<|h1.symm.trans e];show#[h1,h2,J]
  .rw[if_neg e,if_neg<|λz=>e<|h1.trans z];show#[h1,h2,h3]
def KT.put(r:KT H kvs xs)(k:L kC)(hb:H b>(.tup<|k.map kV))(J:z9 y u):
  KT H (bI kvs k y) (storedH xs k b u):=by
 have e:(kvs.any λkv=>decide<|kv.1=k)=(ck xs k).isSome:=by
  rw[Oz,(r.val k).isSome_eq,sI]
 unfold bI storedH;rw[e];by_cases q:(ck xs k).isSome=true
 .rw[if_pos q,if_pos q];show r.repl k J
 .rw[if_neg q,if_neg q];show Paired.snoc r #[rfl,hb,J]
def KT.keeps(r:KT H kvs xs)(J:∀b ys,H b>.tup ys->H' b>.tup ys):KT H' kvs xs:=
 Paired.mapP r λ_ _ z=>#[z.1,J _ _ z.2.1,z.2.2]
section
variable {P:F6}{w:F9}{H:Hp}{h:Heap}{a:Addr}
def zWQ(ok:HOk P w H h)(e:Rd H a u):qA P w H h a u:=e.ok ok
def DU{kvs:L (kC×V)}(ok:HOk P w H h)(e:Rd H a (.dK kvs)):kvs.length<=sizeLine/\(a==BC)=false/\∃vs,KV kvs vs/\h.DictOf (zY P w) a vs:=
 zWQ ok e
def Ti{kvs:L (kC×V)}(ok:HOk P w H h)(e:H a>.dK kvs):kvs.length<=sizeLine/\(a==BC)=false/\∃vs,KV kvs vs/\h.DictOf (zY P w) a vs:=DU ok<|.inl e
def IS{ks:L kC}(ok:HOk P w H h)(e:H a>(.tup<|ks.map kV)):(ax<|zY P w).is h ks a:=by
 let(_,its,r,o,h1,h2,n,h3,_):=(ok a _ e)
 show#[o,its.toArray,n,h1,h2,h3,‹vt r›]
def NS{kvs:L (L kC×V)}(ok:HOk P w H h)(e:Rd H a (.dT kvs)):kvs.length<=sizeLine/\(a==BC)=false /\
  ∃xs,KT H kvs xs/\h.DictOfH (ax<|zY P w) a xs:=by
 let(z,y,xs,r,o,es,ep,h1,h2,h3,J,O):=(zWQ ok e)
 refine#[z,y,xs,r,o,es,ep,h1,h2,h3,J,λx hx=>?_,O]
 have all:∀{l:L _}{m:L _},KT H l m->∀x∈m,(ax<|zY P w).is h x.1 x.2.1:=by
  intro l m q
  induction q with
  |nil=>simp_all
  |@cons p q ps qs hq t ih=>
   intro x hx;rcases oA.mp hx with e|hx
   .subst e;show IS ok (by simp_all)
   .show ih x hx
 show all r x hx
def Tj{kvs:L (L kC×V)}(ok:HOk P w H h)(e:H a>.dT kvs):kvs.length<=sizeLine/\(a==BC)=false /\
  ∃xs,KT H kvs xs/\h.DictOfH (ax<|zY P w) a xs:=NS ok<|.inl e
end
noncomputable def QH(H:Hp)(a:Addr)(y:V)(r:Op V):Prop:=
 (∃kvs k,Rd H a (.dK kvs)/\y=kV k/\r=gG kvs k)\/∃kvs k b,Rd H a (.dT kvs)/\y=.ref b/\H b>(.tup<|k.map kV)/\r=gG kvs k
noncomputable def PP(H:Hp)(a:Addr)(y v:V)(H':Hp):Prop:=
 (∃kvs k,H a>.dK kvs/\y=kV k/\kvs.length<sizeLine/\H'=upd H a (.dK<|bI kvs k v)) \/
 ∃kvs k b,H a>.dT kvs/\y=.ref b/\H b>(.tup<|k.map kV)/\kvs.length<sizeLine/\H'=upd H a (.dT<|bI kvs k v)
def QH.k{H:Hp}{a:Addr}{kvs:L (kC×V)}{k:kC}(e:H a>.dK kvs):QH H a (kV k) (gG kvs k):=.inl #[kvs,k,.inl e,rfl,rfl]
def QH.t{k:L kC}(e:H a>.dT kvs)(z:H b>(.tup<|k.map kV)):QH H a (.ref b) (gG kvs k):=.inr #[kvs,k,b,.inl e,rfl,z,rfl]
def PP.k{H:Hp}{a:Addr}{kvs:L (kC×V)}{k:kC}{v:V}(e:H a>.dK kvs)(hl:kvs.length<sizeLine):PP H a (kV k) v (upd H a<|.dK<|bI kvs k v):=.inl #[kvs,k,e,rfl,hl,rfl]
def PP.t{kvs:L (L kC×V)}{k:L kC}(e:H a>.dT kvs)(z:H b>(.tup<|k.map kV))(hl:kvs.length<sizeLine):
  PP H a (.ref b) v (upd H a<|.dT<|bI kvs k v):=.inr #[kvs,k,b,e,rfl,z,hl,rfl]
section
variable {X:Cx}{pins:IE}{σ:St}{H:Hp}{s:F2}{a:Addr}{y v:V}{u r:F3}{o:Op V}{A:F8}{E:jD}
def Inv.big(I:Inv X pins σ H s):BC<s.heap.objs.size:=by
 have h:=(I.mod.glob.keeps I.bk).lt;show kJ 02 h
def zMT{Q:jD}(hu:A.units+1<K6)(I:Inv X pins σ H s)(g:QH H a y (some v))(Y:z9 y u)(h:∀O s',Inv X pins σ H s'->z9 v O->Q O s'):
  F5 (F4 X.prog X.w) A (br (.ref a) u) Q E s:=by
 rcases g with⟨kvs,k,e,U,l⟩|⟨kvs,k,b,e,U,eb,l⟩
 .subst U;let(z,hd,vs,J,dd):=DU I.hok e;let(O,hw,rw'):=DK.some_of (by rw[l];show J.val k);show wpAny_getItem_of (MS Y) dd.mapOf hw<|h O _ (I.tok _) rw'
 .subst U;cases (Y);let(z,hd,xs,J,dd):=NS I.hok e;let(O,hw,rw'):=DK.some_of (by rw[l];show J.val k);let(p,hp,S0):=bA.mp hw;refine wpAny_getItem_heap (N5 hu) (IS I.hok eb) dd hp ?_;rw[S0];show h O _ (I.tok _) rw'
def Gw{Q:jD}(hu:A.units+1<K6)(I:Inv X pins σ H s)(g:QH H a y o)(U:z9 y u)(h:∀s',Inv X pins σ H s'->Q (.bool o.isSome) s'):
  F5 (F4 X.prog X.w) A (N1 .In u<|.ref a) Q E s:=by
 rcases g with⟨kvs,k,e,O,l⟩|⟨kvs,k,b,e,O,Y,l⟩
 .subst O;let(z,hd,vs,J,dd):=DU I.hok e;refine wpAny_in_of (MS U) hd dd.mapOf ?_;rw[<- (J.val k).isSome_eq,<- l];show h _<|I.tok _
 .subst O;cases (U);let(z,hd,xs,J,dd):=NS I.hok e;refine wpAny_in_heap (N5 hu) (IS I.hok Y) hd dd ?_;have q:=(J.val k).isSome_eq;rw[sI]at q;rw[<- q,<- l];show h _<|I.tok _
def zSz{Q:jD}(hu:A.units+1<K6)(I:Inv X pins σ H s)(g:QH H a y o)(U:z9 y u)(h:∀s',Inv X pins σ H s'->Q (.bool<|!o.isSome) s'):
  F5 (F4 X.prog X.w) A (N1 .NotIn u<|.ref a) Q E s:=by
 rcases g with⟨kvs,k,e,O,l⟩|⟨kvs,k,b,e,O,Y,l⟩
 .subst O;let(z,hd,vs,J,dd):=DU I.hok e;refine wpAny_notIn_of (MS U) hd dd.mapOf ?_;rw[<- (J.val k).isSome_eq,<- l];show h _<|I.tok _
 .subst O;cases (U);let(z,hd,xs,J,dd):=NS I.hok e;refine wpAny_notIn_heap (N5 hu) (IS I.hok Y) hd dd ?_;have q:=(J.val k).isSome_eq;rw[sI]at q;rw[<- q,<- l];show h _<|I.tok _
def d7{h':Heap}{t':Nat}(I:Inv X pins σ H s)(J:fZ (H a))(hs:EC a s.heap h')(he:∃q,h'.get? a>q)(new:qA X.prog X.w (upd H a ob) h' a ob):
  Inv X pins σ (upd H a ob) { s with heap:=h',toks:=t' }:=
 I.write J (.inl rfl) (λb q hb z=>(hs.2 b hb).trans z) he new
def zRj{h':Heap}{kvs:L (kC×V)}(z:kvs.length<=sizeLine)(hd:(a==BC)=false)(J:KV kvs vs)(dd:h'.DictOf (zY P w) a vs):
  qA P w H' h' a (.dK kvs):=#[z,hd,vs,J,dd]
def zMU{H':Hp}{Q:Unit->F2->Prop}(hu:A.units+1<K6)(I:Inv X pins σ H s)(g:PP H a y v H')(ry:z9 y u)(rv:z9 v r)(h:∀s',Inv X pins σ H' s'->Q () s'):
  F5 (F4 X.prog X.w) A (fg (.ref a) u r) Q E s:=by
 rcases g with⟨kvs,k,e,Y,l,U⟩|⟨kvs,k,b,e,Y,eb,l,U⟩
 .subst Y U;let(z,hd,vs,J,dd):=Ti I.hok e;have hz:vs.length<=sizeLine:=by rw[<- J.length];show z
  have hl:(bI kvs k v).length<=sizeLine:=by have:=d6 kvs k v;omega
  refine wpAny_setItem_pairs (MS ry) dd λh' O hs=>h _ ?_
  have he:∃q,h'.get? a>q:=let ⟨q,_,_,hq,_⟩:=O;#[q,hq];show d7 I (by rw[e];show True.intro) hs he<|zRj hl hd (J.put k rv) O
 .subst Y U;cases (ry);let(z,hd,xs,J,dd):=Tj I.hok e;have hz:xs.length<=sizeLine:=by rw[<- Paired.length J];show z
  have hl:(bI kvs k v).length<=sizeLine:=by have:=d6 kvs k v;omega
  refine wpAny_setItem_heap (N5 hu) (IS I.hok eb) dd λh' O hs=>h _ ?_
  let(q,es,ep,hq,h2,h3,h4,_,h5):=O;refine d7 I (by rw[e];show True.intro) hs #[q,hq] #[hl,hd,_,(J.put k eb rv).keeps λc ys ec=>?_,q,es,ep,hq,h2,h3,h4,h5];rw[zD<|Te ec e<|λz=>nomatch z];show ec
end
section
variable {X:Cx}{pins:IE}{σ:St}{H:Hp}{s:F2}{a:Addr}{kvs:L (kC×V)}{k:kC}{u:F3}{A:F8}{E:jD}
end
def zS0{prog:F6}{w:F9}{A:F8}{E:jD}{s:F2}{env:Env}{value slice:Expr}{pos:Pos}{T id:String}{Q:jD}
  (hl:WJ (.type T) "__getitem__" = pure (some<|.builtin id)) (hs:yo slice)
  (h:F5 (F4 prog w) A (eval value env) (λo O=>F5 (F4 prog w) A (eval slice env) (λi z=>z.TypeIs o T/\F5 (F4 prog w) A (br o i) Q E z) E O) E s) :
  F5 (F4 prog w) A (eval (.Subscript value slice pos) env) Q E s:=by
 refine tX (K0 h (λo O Y=>K0 Y (λi z J=>?_) λ_ _ x=>x) λ_ _ x=>x);let(hT,J):=J;refine Ee ?_;refine Ee<|wpAny_specialOf hT hl ?_
 have fin:F5 (F4 prog w) A (et slice false o i) (λr U=>F5 (F4 prog w) A (letTemporaryGo value o r >>= λ_=>pure r) Q E U) E z:=by
  rw[hs o i];show wpAny_operating (K0 J (λr U oS=>Ee<|wpAny_letTemporaryGo<|F1 oS) λ_ _ x=>x)
 first
  |show F1 (Ee fin)
  |grind
  |grind
def zIq{s:F2}(I:Inv X pins σ H s)(g:QH H a y o):s.TypeIs (.ref a) "dict":=by
 rcases g with⟨kvs,k,e,_,_⟩|⟨kvs,k,b,e,_,_,_⟩
 .let(_,_,vs,_,dd):=DU I.hok e;show dd.typeIs
 .let(_,_,xs,_,dd):=NS I.hok e;show dd.typeIs
def B5(td ty:TE):=(λσ H Q=>td σ H λx H1=>ty σ H1 λy H2=>∃a v,x=.ref a/\QH H2 a y (some v)/\Q v H2:TE)
def Lk(ty td:TE):=(λσ H Q=>ty σ H λy H1=>td σ H1 λx H2=>∃a o,x=.ref a/\QH H2 a y o/\Q (.bl o.isSome) H2:TE)
def zS1(ty td:TE):=(λσ H Q=>ty σ H λy H1=>td σ H1 λx H2=>∃a o,x=.ref a/\QH H2 a y o/\Q (.bl<|!o.isSome) H2:TE)
def Q3(td ty tv:TE):=(λD σ H=>tv σ H λv H1=>td σ H1 λx H2=>ty σ H2 λy H3=>∃a H4,x=.ref a/\PP H3 a y v H4/\D.nx σ H4:TS)
section
variable {X:Cx}{o i e value:Expr}{pos pos' kE:Pos}{td ty tv:TE}
def EW(O:X.A.units+1<K6)(J:PE X o td)(hi:PE X i ty)(hs:yo i):PE X (.Subscript o i pos) (B5 td ty):=by
 intro pins s σ H Q I h;refine zS0 PySem.F.slot_dict_getitem.lookup hs (iD (J _ s σ H _ I h) λu s1 ⟨x,H1,I1,Y,q1⟩=>iD (hi _ s1 σ H1 _ I1 q1) λiv s2 zz=>?_);let(y,H2,I2,ry,a,v,ex,g,U):=zz;subst ex;obtain rfl:u=mB a:=Y;show#[zIq I2 g,zMT O I2 g ry λw' s3 z rw'=>#[v,H2,z,rw',U]]
def zRk(O:X.A.units+1<K6)(hi:PE X i ty)(J:PE X o td):PC X .In i o (Lk ty td):=by
 intro pins s σ H Q I h;refine iD (hi _ s σ H _ I h) λiv s1 ⟨y,H1,I1,ry,q1⟩=>iD (J _ s1 σ H1 _ I1 q1) λu s2 zz=>?_
 let(x,H2,I2,Y,a,ov,ex,g,U):=zz;subst ex;obtain rfl:u=mB a:=Y;show Gw O I2 g ry λs3 z=>#[.bl _,H2,z,rfl,U]
def zMV(O:X.A.units+1<K6)(hi:PE X i ty)(J:PE X o td):PC X .NotIn i o (zS1 ty td):=by
 intro pins s σ H Q I h;refine iD (hi _ s σ H _ I h) λiv s1 ⟨y,H1,I1,ry,q1⟩=>iD (J _ s1 σ H1 _ I1 q1) λu s2 zz=>?_
 let(x,H2,I2,Y,a,ov,ex,g,U):=zz;subst ex;obtain rfl:u=mB a:=Y;show zSz O I2 g ry λs3 z=>#[.bl _,H2,z,rfl,U]
def Qm(hu:X.A.units+1<K6)(Y:PE X o td)(hi:PE X i ty)(hv:PE X value tv)(hs:dF value (some<|.Subscript o i pos') pos.line X.env=pure false):
  PS X (.Assign [.Subscript o i pos'] value pos) (Q3 td ty tv):=by
 intro pins s σ H D I h;refine wpAny_Assign_Subscript (iD (hv _ s σ H _ I h) λr s1 z=>?_) hs;let(v,H1,I1,rv,q1):=z;refine iD (Y _ s1 σ H1 _ I1 q1) λu s2 z=>?_
 let(x,H2,I2,rx,q2):=z;refine iD (hi _ s2 σ H2 _ I2 q2) λiv s3 z=>?_
 let(y,H3,O,ry,a,J,ex,g,q3):=z;subst ex;obtain rfl:u=mB a:=rx;show zMU hu O g ry rv λs4 U=>#[σ,J,U,q3]
end
def zPM(h:Heap)(hb:BC<h.objs.size):qA P w H (h.push { cls:=.type "dict",data:=.dict [].toArray }) h.objs.size (.dK []):=
 #[LB _,beq_eq_false_iff_ne.mpr<|Ne.symm<|GA hb,[],.nil,WM h]
def zJq(h:Heap)(hb:BC<h.objs.size):qA P w H (h.push { cls:=.type "dict",data:=.dict [].toArray }) h.objs.size (.dT []):=
 #[LB _,beq_eq_false_iff_ne.mpr<|Ne.symm<|GA hb,[],.nil,_,[].toArray,0,rA _ rfl,#[rfl,rfl,rfl],rfl,rfl,rL]
def zWR:=(λ_ H Q=>∀p,H p=none->Q (.ref p) (upd H p<|.dK []):TE)
def zWS:=(λ_ H Q=>∀p,H p=none->Q (.ref p) (upd H p<|.dT []):TE)
section
variable {X:Cx}{pos:Pos}
def zJr:PE X (.Dict [] [] pos) zWR:=λpins s σ H Q I h=>
 Y8 #[.ref _,_,I.laid (λ_ _ q=>jA _ q) (wA _)<|zPM _ I.big,rfl,h _<|I.hok.fresh<|wA _]
def zJs:PE X (.Dict [] [] pos) zWS:=λpins s σ H Q I h=>
 Y8 #[.ref _,_,I.laid (λ_ _ q=>jA _ q) (wA _)<|zJq _ I.big,rfl,h _<|I.hok.fresh<|wA _]
end
structure M2(X:Cx)(o:Expr)(m:Str)(apos:Pos)(e f:Expr)(gB:Pos):Prop where
 base:RF o m X.env (eval o X.env)=eval o X.env
 few:((N4 gB<|F7 [e,f] X.env).all (λx=>!x.1)&&(T5 gB<|N0 [] X.env).all (λx=>x.1.isSome)
  && decide (([e,f]:List Expr).length+([]:List OK).length+(if ([]:List OK).isEmpty then 0 else 1)<30))=true
 line:(apos.endLine==gB.line)=true
 trees:N4 gB (F7 [e,f] X.env)=[(false,eval e X.env),(false,eval f X.env)]
def Vc(H:Hp)(a:Addr):=((∃kvs,Rd H a<|.dK kvs)\/∃kvs,Rd H a<|.dT kvs:Prop)
def zWT{s:F2}(I:Inv X pins σ H s)(d:Vc H a):
  s.TypeIs (.ref a) "dict"/\(∀b,mB a=.ref b->∃ob,s.heap.get? b>ob/\ob.dict=none)/\(a==BC)=false:=by
 rcases d with⟨kvs,e⟩|⟨kvs,e⟩
 .let(_,hd,vs,_,dd):=DU I.hok e;refine#[dd.typeIs,λb q=>?_,hd];cases q;let(ob,_,_,h1,h2,_):=dd;show#[ob,h1,h2.2.1]
 .let(_,hd,xs,_,dd):=NS I.hok e;refine#[dd.typeIs,λb q=>?_,hd];cases q;let(ob,_,_,h1,h2,_):=dd;show#[ob,h1,h2.2.1]
section
variable {X:Cx}{pins:IE}{σ:St}{H:Hp}{s:F2}{a:Addr}{y d:V}{u r:F3}{o:Op V}{A:F8}{E:jD}
def zWU{Q:jD}(hu:A.units+1<K6)(I:Inv X pins σ H s)(g:QH H a y o)(Y:z9 y u)(U:z9 d r)(h:∀w' s',Inv X pins σ H s'->z9 (o.getD d) w'->Q w' s'):
  F5 (F4 X.prog X.w) A (call (.builtin "dict.get") [.ref a,u,r]) Q E s:=by
 rcases g with⟨kvs,k,e,O,l⟩|⟨kvs,k,b,e,O,eb,l⟩
 .subst O;let(z,hd,vs,J,dd):=DU I.hok e;refine pF KG dd.typeIs SL (tL _ _ _) (meets_dict_get_default _ a (MS Y) hd r) #[_,dd.mapOf,h _ _ (I.tok _) ?_];rw[l];show(J.val k).getD U
 .subst O;cases (Y);let(z,hd,xs,J,dd):=NS I.hok e;refine pF KG dd.typeIs SL (tL _ _ _) (meetsH_dict_get_default _ a b hd r) #[N5 hu,k,xs,IS I.hok eb,dd,h _ _ (I.tok _) ?_];rw[l];show(J.val k).getD U
end
def zWV(td ty tx:TE):=(λσ H Q=>td σ H λx H1=>∃a,x=.ref a/\Vc H1 a/\ty σ H1 λy H2=>tx σ H2 λz H3=>∃o,QH H3 a y o/\Q (o.getD z) H3:TE)
section
variable {X:Cx}{o e f:Expr}{apos gB:Pos}{td ty tx:TE}
def zPN(hu:X.A.units+1<K6)(Y:PE X o td)(he:PE X e ty)(hf:PE X f tx)(m:M2 X o "get" apos e f gB):PE X (.Call (.Attribute o "get" apos) [e,f] [] gB) (zWV td ty tx):=by
 intro pins s σ H Q I h;refine wpAny_Call_method m.base m.few m.line HE KG PySem.F.type_dict_get (iD (Y _ s σ H _ I h) λu s1 zz=>?_);let(x,H1,I1,rx,a,ex,d,q1):=zz;subst ex;obtain rfl:u=mB a:=rx;let(t1,t2,_):=zWT I1 d;refine#[t1,t2,?_];rw[m.trees]
 refine HG rfl (wH<|gI (iD (he _ s1 σ H1 _ I1 q1) λiv s2 ⟨y,H2,I2,ry,q2⟩=>
  gI (iD (hf _ s2 σ H2 _ I2 q2) λfv s3 ⟨z,J,O,rz,ov,g,q3⟩=>aQ ?_)))
 show zWU hu O g ry rz λw' s4 U rw'=>#[_,J,U,rw',q3]
end
section
variable {X:Cx}{pins:IE}{σ:St}{H:Hp}{s:F2}{a:Addr}{kvs:L (kC×V)}{A:F8}{E:jD}
end
section
variable {X:Cx}{pins:IE}{σ:St}{H:Hp}{s:F2}{a:Addr}{y:V}{u:F3}{A:F8}{E:jD}
end
end L2
namespace Att
open PySem PySem.W PySem.Calls PyProof.Rows
def zEm:∀(ns:L Int)(vs:L F3),WellAll P h vs (ns.map WData.int)->NK vs ns:=by
 intro ns
 induction ns with
 |nil=>
  intro vs w;cases w
  show .nil
 |cons n ns ih=>
  intro vs w
  cases w with
  |cons a b=>
   cases a;show .cons _ _<|ih _ b
def zMW{l:OpenLaw}(hn:l.most>n){h:Heap}(U:l.row.toRowW.claim.pre args=true)(Jh:WellAll P h vals args):
  ∃a vs ns,vals=[mB a]/\args=[WData.list<|ns.map WData.int]/\h.get? a>{ cls:=.type "list",data:=.seq vs.toArray }/\NK vs ns/\ns.length<=n:=by
 have O:WShape.hasAll [] _ [.list _]=true:=(pre_splitW U).1;have hc:l.pre.holds [] _=true:=(pre_splitW U).2;let(d,r,rfl,h1,h2):=hasAllW_cons O;obtain rfl:=hasAllW_nil h2;let(xs,rfl,h3):=hasW_list h1;let(ns,rfl):=items_int h3
 have z:=by
  have J:=by
   have J:=(holds_andW hc).1;rw[hn]at J;show J
  have h5:=condW_of J<|w_not<|w_lt w_lit<|w_len_list<|w_arg rfl
  first
   |grind
   |(simp at h5;omega)
 cases Jh with
 |cons w1 w2=>
  cases w2
  cases w1 with
  |list ho Y=>show#[_,_,ns,rfl,rfl,ho,zEm ns _ Y,z]
def zMX(l:OpenLaw)(args:L WData):l.row.toRowW.claim.post args (.bool true) args=true:=
 postW_of
  (show WShape.has [] _ _=true by rfl)
  (w_eq_bool (w_res rfl) w_lit) rfl
def attach_call{l:OpenLaw}{XP:(Str->Op F3)->Heap->Prop}{YP:F9->Heap->Prop}{d:Up}(hn:l.most>n)(HV:d.params.defaults=[]) (call:∀(w:F9)(s₀ z:F2)(mg mb:AF)(fa:Addr)(o:Obj)(pm cd O:F3)(a:Addr)(vs:L F3)(ns:L Int),
   Ground q loose [] XP w s₀ mg mb z.heap->YP w z.heap ->
   z.heap.get? fa>o->o.data=.func (docDef d.name d.params d.body d.scope pm cd O)->z.heap.CodeRec cd d.name->mg d.name>.ref fa ->
   z.heap.get? a>{ cls:=.type "list",data:=.seq vs.toArray }->NK vs ns->ns.length<=n->z.gens = [].toArray ->
   pE (F4 l.prog w) UK (.call (.ref fa) #[[.ref a],[]]) (λr s'=>r=.ok (.ret<|.bool true)/\OldK z.heap s'.heap/\s'.os=z.os/\jG s'.gens) z) :
  WalkO q loose XP YP l.row.toRowW d [] (λf vs=>TK f vs):=by
 intro w s₀ z mg mb G Y fa o pm cd O dV kV ho hd FL hD L0 hg args vals as lS jbb hrd Jh hlo;obtain rfl:dV=.none:=Dflts.none hD HV;obtain rfl:kV=.none:=Dflts.noKw hD;let(a,vs,ns,rfl,rfl,UV,J,U):=zMW hn lS Jh;refine enter_call (T4 (call w _ _ mg mb fa o pm cd _ a vs ns G Y ho (fd_plain hd) FL L0 UV J U hg) λr s' hq=>?_);let(rfl,h2,h3,h4):=hq;show#[.inl #[.bool _,.bool _,[],rfl,λ_=>rfl,.bool _,zMX l _,λ_=>#[S8,λ_ hm=>(nomatch hm)]],h2,h3,h4]
section
variable {prog:F6}{w:F9}{A:F8}{E:jD}{s:F2}{K:Frag}
end
end Att
namespace L2
open PySem PySem.Spec PyProof.Rows
theorem vx:∀{vs:L F3}{ns:L Int},NK vs ns->zl (ns.map V.int) vs
 |_,_,.nil=>.nil
 |_,_,.cons n t h=>.cons #[t,rfl]<|vx h
def hV(H:Hp):=(∀b,H b=none\/∃o xs,H b>(.frz o<|.lst xs):Prop)
def zPO{K:Fg}{mg mb:AF}{J:F2}{vs:L F3}{ns:L Int}(KX:K.In J.heap)(Wl:J.heap.Ns K4 mg)(hb:J.heap.Ns vX mb)(hbb:∀x:Str,x ≠ "__name__"->mb x=oB x)(Io:J.heap.NoLimit)(hg:J.gens = [].toArray)(ha:J.heap.get? a>{ cls:=.type "list",data:=.seq vs.toArray })(hi:NK vs ns)(hl:ns.length<=sizeLine)(hr:qB k UK)(F:∀base:Heap,K.In base->base.Ns K4 mg->PH P w K mg base CX k fa fd [x] sp)(RZ:∀(s:F2)(u:F3),VM s fd #[[u],[]] [(x,u)])(fU:∀H:Hp,hV H->vF K H a (ns.map V.int)->sp [.ref a] H (λv _=>v=.bl true) λ_ _ _=>False)(Hn:∀H e s',CX [] H J (λ_ _ _=>False) e s'->False):
  pE (F4 P w) UK (.call (.ref fa) #[[.ref a],[]]) (λr s'=>r=.ok (.ret<|.bool true)/\OldK J.heap s'.heap/\s'.os=J.os/\jG s'.gens) J:=by
 have rv:=vx hi;have Jt:=hi.length
 -- from an abstract heap in which nothing but the script may be tracked
 have U:∀H:Hp,hV H->vF K H a (ns.map V.int)->HOk P w H J.heap->(∀b,H b≠none->b=a)->(H a≠none->K.lookup a=none) ->
   pE (F4 P w) UK (.call (.ref fa) #[[.ref a],[]]) (λr s'=>r=.ok (.ret<|.bool true)/\OldK J.heap s'.heap/\s'.os=J.os/\jG s'.gens) J:=by
  intro H hO hS hok hA hK;have O:∀{b:Addr}{o:Obj},J.heap.get? b>o->H b=none->(WW J.heap H).get? b>o:=λe n=>zPB e n
  have P2:∀{b:Addr}{o:Obj}{es:Array cm}{ep:Nat},J.heap.get? b>o->o.data=.dict es ep->H b=none:=λ{b o es ep} e d=>by
   cases q:H b with
   |none=>rfl
   |some u=>
    have e':b=a:=hA b (by rw[q];simp);subst e';rw[ha]at e;cases e;have d':=d;cases d'
  have W9:∀{b:Addr}{m:AF},J.heap.Ns b m->(WW J.heap H).Ns b m:=λ{b m} ⟨o,es,ep,e,d,r⟩=>#[o,es,ep,O e<|P2 e d,d,r]
  have Wa:=λb o e=>O (KX b o e) (by
   cases q:H b with
   |none=>rfl
   |some u=>
    have e':b=a:=hA b (by rw[q];simp);subst e';rw[hK (by rw[q];simp)]at e;cases e)
  have hM:Mod K mg (WW J.heap H):=#[Wa,W9 Wl,#[mb,W9 hb,hbb],let ⟨mc,h1,h2⟩:=Io;#[mc,W9 h1,h2]]
  have e0:ZW P w K mg _ UK [] J H:=#[rfl,hM,λb o e=>zSV e,V8<|zL4 _ _,trivial,λb hb=>absurd (show b∈([]:L Addr) from hb) (by simp),hok,.of_eq hg]
  refine T4 ((F _ Wa<|W9 Wl).run UK [] J H _ [.ref a] [.ref a] _ _ hr e0 (RZ J<|.ref a) (.cons rfl .nil)<|fU H hO hS) λr s' h=>?_
  cases r with
  |error e=>show(Hn H e s' h).elim
  |ok fl=>
   cases fl with
   |next=>show False.elim h
   |brk=>show False.elim h
   |cont=>show False.elim h
   |ret u=>
    let(v,H',os,bare,un,dJ,r',q):=h;have q':v=.bl true:=q;subst q';obtain rfl:u=OG true:=r';refine#[rfl,OldK.of_keep λb o e=>?_,os,bare]
    cases q:H b with
    |none=>show un.keep b o e q (by intro z;show absurd (show b∈([]:L Addr) from z)<|by simp) (by simp)
    |some u=>
     rcases hO b with z|⟨ob,xs,z⟩
     .rw[q]at z;cases z
     .have z2:=un.frzs b ob _ z;let(e1,_):=hok b _ z;let(e2,_):=dJ b _ z2;rw[e]at e1;cases e1;show e2
 cases hk:K.lookup a with
 |some o=>
  -- the script is one of the module's own objects
  have e:=KX a o hk;rw[ha]at e;cases e
  refine U (λ_=>none) (λ_=>.inl rfl) (.inr #[_,vs.toArray,_,hk,rfl,rfl,rfl,by rw[IA,Jt];show hl,‹rv›]) (λb u z=>by have Y:=z;cases Y) (λb z=>absurd rfl z) λz=>absurd rfl z
 |none=>
  refine U (λb=>if b=a then some _ else none) (λb=>?_) (.inl<|.inr #[{ cls:=.type "list",data:=.seq vs.toArray },if_pos rfl]) (λb u z=>?_) (λb z=>?_) λ_=>hk
  .by_cases hb:b=a
   .show .inr #[_,_,if_pos hb]
   .show .inl<|if_neg hb
  .by_cases hb:b=a
   .have Y:=(if_pos hb).symm.trans z;cases Y;subst hb;show#[ha,by rw[lA];show hl,vs,_,rv,ha]
   .have Y:=(if_neg hb).symm.trans z;cases Y
  .by_cases hb:b=a
   .show hb
   .show absurd (if_neg hb) z
end L2
namespace L2
open PySem PySem.Spec PyProof.Rows
def zMY{l:nJ}{XP:(Str->Op F3)->Heap->Prop}{U:F9->Heap->Prop}{d:Up}{K:Params->Fg}{CX:F9->YN}{sp:F9->Sp}(hn:l.most>n)(M9:n<=sizeLine)(HV:d.params.defaults=[])(hr:qB k UK)(hY:∀(w:F9)(h:Heap),U w h->(K w.params).In h) (F:∀(w:F9)(mg:AF)(fa:Addr)(h:Heap),(K w.params).In h->h.Ns K4 mg->mg d.name>.ref fa ->
   ∃fd:K5,(∀(s:F2)(u:F3),VM s fd #[[u],[]] [(x,u)]) /\
    ∀base:Heap,(K w.params).In base->base.Ns K4 mg->PH l.prog w (K w.params) mg base (CX w) k fa fd [x] (sp w)) (fU:∀(w:F9)(H:Hp)(a:Addr)(ns:L Int),ns.length<=n->hV H->vF (K w.params) H a (ns.map V.int)->sp w [.ref a] H (λv _=>v=.bl true) λ_ _ _=>False) (Hn:∀(w:F9)(H:Hp)(s:F2)(e:F3)(s':F2),CX w [] H s (λ_ _ _=>False) e s'->False) :
  SK q loose XP U l.row.toRowW d [] (λf vs=>TK f vs):=by
 refine Att.attach_call hn HV λw s₀ GC mg mb fa o pm cd doc a vs ns G Y ho hd FL L0 UV J z hg=>?_
 have O:=hY w _ Y;let(fd,hb,hF):=F w mg fa _ O G.T.g L0;show zPO O G.T.g G.T.b G.T.builtins G.T.nolimit hg UV J (JA z M9) hr hF hb (λH hO hS=>fU w H a ns z hO hS) λH e s'=>Hn w H _ e s'
end L2
namespace L2
open PySem PySem.Spec PyProof.Rows
abbrev SH:YN:=λ_ _ _ _ _ _=>False
abbrev E0:XK:=λ_ _ _=>False
def FR:IP SH X E0:=λ_ _ _ _ _ _ _ h=>h.elim
structure XJ(K:Fg)(x qual:Str)(st:Stmt)(f:Addr)(fd:K5):Prop where
 ex:∃(oc:F3)(od:Option Addr)(kV doc pm:F3)(an:Option Addr)(bE ct:F3)(dO:Array (Option F3)),
  fd=fE x qual (YX st) (yI st) (zH st) .none kV doc pm an bE ct/\K.lookup f>#[oc,od,.func fd,dO]/\fH K bE qual=true
 kp:pD K (.ref f)=true
section
variable {P:F6}{w:F9}{K:Fg}{mg:AF}{base:Heap}
def XJ.ok{x qual:Str}{st:Stmt}{f:Addr}{fd:K5}{N ps:L Str}{k:Nat}{sp:Sp}(F:XJ K x qual st f fd)(S:yA N ps (zH st))(len:∀vs H Q E,sp vs H Q E->vs.length=ps.length)
  (O:∀(z:F3)(A:F8)(outer:L Env)(s:F2)(H:Hp)(vs:L V)(Q:VK)(E:XK),qB k (A.deeper<|N9 qual (zH st) s.heap.objs.size f z)->sp vs H Q E ->
   ∃t,oK (sO SH P w K mg base N qual (zH st) f z A outer s H E).nox (yI st) t/\t { nx:=λ_ H'=>Q .non H',rt:=Q } (dM N vs) H):PH P w K mg base SH (k+1) f fd ps sp:=by
 let(oc,od,kV,U,pm,an,z,ct,dO,rfl,Y,J):=F.ex;refine V7 Y J S len λA outer s H vs Q E hr fU=>?_
 let(t,h,q):=O _ A _ s H vs Q E hr fU;show#[t,h.nox,q]
def XJ.binds{x qual:Str}{st:Stmt}{f:Addr}{fd:K5}{ps:L Str}(F:XJ K x qual st f fd)
  (h:∀(kV z O:F3)(J:Op Addr)(U ct:F3)(us:L F3),us.length=ps.length->Uv (fE x qual (YX st) (yI st) (zH st) .none kV z O J U ct) #[us,[]]=pure (ps.zip us)):RO K fd ps []:=by
 let(oc,od,kV,z,O,J,U,ct,dO,rfl,lk,Y):=F.ex;show .all<|h kV _ O J _ ct
def zWW{x qual:Str}{st:Stmt}{f:Addr}{oc:F3}{od O:Op Addr}{Y:Array (Op F3)}{kV z U J ct:F3}(l:K.lookup f>#[oc,od,.func<|fE x qual (YX st) (yI st) (zH st) .none kV z U O J ct,Y])
  (c:fH K J qual=true) (k:pD K (.ref f)=true):XJ K x qual st f (fE x qual (YX st) (yI st) (zH st) .none kV z U O J ct):=#[#[oc,od,kV,z,U,O,J,ct,Y,rfl,l,c],k]
end
def Y0{A:F8}(hr:qB k A):A.units+1<K6:=FI (Nat.add_le_add_left (by decide:1<=64) _) hr.units
def zMZ(h:n<=1000):n<sizeLine:=FI h 02
section
variable {X:Cx}
def pv(i:Nat)(J:X.N[i]?>x:=by rfl)(hv:xX X.env.scope x:=by first|show Or.inl rfl|show Or.inr (Or.inl rfl)|show Or.inr (Or.inr rfl))(hd:(x==("__debug__" : Str))=false:=by decide)(z:(x==("__classdict__" : Str))=false:=by decide):PE X (.Name x pos) (qk i):=zRb J hv hd z
end
def zO(H H':Hp):=(∀b o,H b>o->H' b>o:Prop)
def zO.refl(H:Hp):zO H H:=λ_ _ h=>h
def zO.trans(a:zO H H1)(b:zO H1 H2):zO H H2:=λc o h=>b c o<|a c o h
def zO.free(e:zO H H')(h:H' l=rX):H l=rX:=by
 cases q:H l with
 |none=>rfl
 |some o=>
  rw[e l o q]at h;cases h
def zO.seq{K:Fg}{H H':Hp}{a:Addr}{xs:L V}(e:zO H H')(h:vF K H a xs):vF K H' a xs:=by
 rcases h with(h|⟨o,h⟩)|h
 .show .inl<|.inl<|e _ _ h
 .show .inl<|.inr #[o,e _ _ h]
 .show .inr h
end L2
namespace L2
open PySem PySem.Spec PyProof.Rows
section
variable {κ:Type}[DecidableEq κ]
end
end L2
namespace RD
open PySem PySem.Spec PyProof.Rows L2
abbrev wF(X:Cx)(e:Expr)(r:L Expr):Prop:=F7 (e::r) X.env=(false,eval e X.env)::F7 r X.env
abbrev aG(X:Cx)(p:Pos)(l:L Expr):Prop:=(N4 p<|F7 l X.env).any (·.1)=false
abbrev aP(X:Cx)(p:Pos)(l:L Expr):Prop:=((N4 p<|F7 l X.env).all (λx=>!x.1)&&(T5 p<|N0 [] X.env).all (λx=>x.1.isSome)&&decide (l.length+([]:L OK).length+(if ([]:L OK).isEmpty then 0 else 1)<30))=true
abbrev aM(X:Cx)(x:Str):Prop:=X.fn x=true\/X.env.scope.names.lookup x>.local
abbrev HJ(X:Cx)(o:Expr)(f:Str):Prop:=RF o f X.env (eval o X.env)=eval o X.env
abbrev FN(p q:Pos):Prop:=(p.endLine==q.line)=true
abbrev XH(x:Str):Prop:=(x==("__debug__" : Str))=false
abbrev cI(X:Cx)(e:Expr)(o:Op Expr)(p:Pos):Prop:=dF e o p.line X.env=pure false
set_option genInjectivity true in
inductive D where
 |non|bl (b:Bool)|int (i:Int)|str (x:Str)|tup (xs:List D)|lst (xs:List D)
section
variable (K:Fg)(G:Hp)
mutual
def Rep:D->V->Prop
 |.non,v=>v=.non
 |.bl b,v=>v=.bl b
 |.int i,v=>v=.int i
 |.str x,v=>v=.str x
 |.tup ds,v=>∃a vs,v=.ref a/\G a>.tup vs/\EA ds vs
 |.lst ds,v=>∃a vs,v=.ref a/\vF K G a vs/\EA ds vs
def EA:L D->L V->Prop
 | [],vs=>vs=[]
 |d::ds,vs=>∃v r,vs=v::r/\Rep d v/\EA ds r
end
end
def yp{K:Fg}{H H':Hp}{a:Addr}{xs:L V}(e:zO H H')(h:HI K H a xs):HI K H' a xs:=by
 rcases h with(h|⟨o,h⟩)|h
 .show .inl<|.inl<|e _ _ h
 .show .inl<|.inr #[o,e _ _ h]
 .show .inr h
mutual
theorem Rep.mono{K:Fg}{G G':Hp}(s:zO G G'):∀(d:D)(v:V),Rep K G d v->Rep K G' d v
 |.non,_,h=>by simpa[Rep] using h
 |.bl _,_,h=>by simpa[Rep] using h
 |.int _,_,h=>by simpa[Rep] using h
 |.str _,_,h=>by simpa[Rep] using h
 |.tup ds,_,h=>by
  dsimp[Rep]at h ⊢;let(a,vs,e,q,r):=h
  show#[a,vs,e,s _ _ q,EA.mono s ds vs r]
 |.lst ds,_,h=>by
  dsimp[Rep]at h ⊢;let(a,vs,e,q,r):=h;show#[a,vs,e,s.seq q,EA.mono s ds vs r]
theorem EA.mono{K:Fg}{G G':Hp}(s:zO G G'):∀(ds:L D)(vs:L V),EA K G ds vs->EA K G' ds vs
 | [],_,h=>by simpa[EA] using h
 |d::ds,_,h=>by
  dsimp[EA]at h ⊢;let(v,r,e,a,b):=h;show#[v,r,e,Rep.mono s d v a,EA.mono s ds r b]
end
section
variable {K:Fg}{G:Hp}
def FP:Rep K G .non v↔v=.non:=by simp[Rep]
def zb{b:Bool}{v:V}:Rep K G (.bl b) v↔v=.bl b:=by simp[Rep]
def zV:Rep K G (.int i) v↔v=.int i:=by simp[Rep]
def qC:Rep K G (.str x) v↔v=.str x:=by simp[Rep]
def qm:Rep K G (.tup ds) v↔∃a vs,v=.ref a/\G a>.tup vs/\EA K G ds vs:=by rfl
def uU(h:Rep K G (.tup ds) v):∃a vs,v=.ref a/\HI K G a vs/\EA K G ds vs:=let ⟨a,vs,e,q,r⟩:=qm.mp h;#[a,vs,e,HI.of q,r]
def qD:Rep K G (.lst ds) v↔∃a vs,v=.ref a/\vF K G a vs/\EA K G ds vs:=by rfl
def zc:EA K G [] vs↔vs=[]:=by rfl
def zL:EA K G (d::ds) vs↔∃v r,vs=v::r/\Rep K G d v/\EA K G ds r:=by rfl
def EA.nil:EA K G [] []:=zc.mpr rfl
def EA.cons(h:Rep K G d v)(t:EA K G ds vs):EA K G (d::ds) (v::vs):=zL.mpr #[v,vs,rfl,h,t]
def EA.inv(h:EA K G (d::ds) (v::vs)):Rep K G d v/\EA K G ds vs:=by
 let(z,r,e,a,b):=zL.mp h
 simp_all
theorem EA.length:∀{ds:L D}{vs:L V},EA K G ds vs->ds.length=vs.length
 | [],vs,h=>by rw[zc.mp h];rfl
 |d::ds,vs,h=>by
  let(v,r,rfl,_,t):=zL.mp h;rw[sA,sA,EA.length t]
theorem EA.get:∀{ds:L D}{vs:L V}{i:Nat}{d:D},EA K G ds vs->ds[i]?>d->∃v,vs[i]?>v/\Rep K G d v
 | [],_,_,_,_,e=>by simp at e
 |d::ds,vs,0,d',h,e=>by
  let(v,r,rfl,a,_):=zL.mp h;simp at e;subst e
  show#[v,rfl,a]
 |d::ds,vs,i+1,d',h,e=>by
  let(v,r,rfl,_,t):=zL.mp h;let(J,e1,z):=EA.get t (by assumption);show#[J,by assumption,z]
def EA.got{ds:L D}{vs:L V}{i:Nat}(h:EA K G ds vs)(e:vs[i]?>v):∃d,ds[i]?>d/\Rep K G d v:=by
 have hl:i<ds.length:=by rw[h.length];show(vA.mp e).1
 let(z,e1,r):=h.get (i:=i) (d:=ds[i]) (by simp[hl])
 simp_all
theorem EA.append:∀{ds es:L D}{vs us:L V},EA K G ds vs->EA K G es us->EA K G (ds++es) (vs++us)
 | [],_,vs,_,h,t=>by rw[zc.mp h];show t
 |d::ds,es,vs,us,h,t=>by
  let(v,r,rfl,a,b):=zL.mp h;show EA.cons a<|EA.append b t
theorem EA.take:∀{ds:L D}{vs:L V}(n:Nat),EA K G ds vs->EA K G (ds.take n) (vs.take n)
 |_,_,0,_=>rfl
 | [],vs,n+1,h=>by rw[zc.mp h];rfl
 |d::ds,vs,n+1,h=>by
  let(v,r,rfl,a,b):=zL.mp h;show EA.cons a<|EA.take n b
theorem EA.drop:∀{ds:L D}{vs:L V}(n:Nat),EA K G ds vs->EA K G (ds.drop n) (vs.drop n)
 |_,_,0,h=>by assumption
 | [],vs,n+1,h=>by rw[zc.mp h];rfl
 |d::ds,vs,n+1,h=>by
  let(v,r,rfl,a,b):=zL.mp h;show EA.drop n b
theorem EA.set:∀{ds:L D}{vs:L V}(i:Nat){d:D}{v:V},EA K G ds vs->Rep K G d v->EA K G (ds.set i d) (vs.set i v)
 | [],vs,_,_,_,h,_=>by rw[zc.mp h];rfl
 |d::ds,vs,0,d',v',h,q=>by
  let(v,r,rfl,a,b):=zL.mp h
  show EA.cons q b
 |d::ds,vs,i+1,d',v',h,q=>by
  let(v,r,rfl,a,b):=zL.mp h;show EA.cons a<|EA.set i b q
def EA.dropLast:∀{ds:L D}{vs:L V},EA K G ds vs->EA K G ds.dropLast vs.dropLast:=λ{ds vs} h=>by
 rw[QN,QN,h.length];show h.take _
theorem EA.ints:∀(ns:L Int),EA K G (ns.map D.int) (ns.map V.int)
 | []=>EA.nil
 |n::ns=>EA.cons (zV.mpr rfl)<|EA.ints ns
end
def Nw(H:Hp)(b:Addr):=(H b=none\/∃vs,H b>.tup vs:Prop)
def Nw.back{H H':Hp}{b:Addr}(h:Nw H' b)(s:zO H H'):Nw H b:=by
 unfold Nw
 cases q:H b with
 |none=>show .inl rfl
 |some u=>
  unfold Nw at h;rw[s b u q]at h;show h
def Ut(H:Hp)(b:Addr):=(∃o,H b>o/\∀vs,o≠.tup vs:Prop)
def Ut.not{H:Hp}{b:Addr}(u:Ut H b)(h:Nw H b):False:=by
 let(o,e,n):=u;rcases h with z|⟨vs,z⟩<;>(rw[e]at z;cases z);show n vs rfl
structure zM(G H G' H':Hp):Prop where
 g:zO G G'
 h:zO H H'
 s:zO G' H'
 f:∀b o,G' b>o->G b=none->Nw H b
def zM.refl(s:zO G H):zM G H G H:=#[zO.refl _,zO.refl _,s,λb o e n=>by grind]
def zM.trans{G H z H1 J H2:Hp}(a:zM G H z H1)(b:zM z H1 J H2):zM G H J H2:=
 #[a.g.trans b.g,a.h.trans b.h,b.s,λc o e n=>by
  cases q:z c with
  |some o'=>show a.f c o' q n
  |none=>show(b.f c o e q).back a.h]
def yB(n:H p=none):zO H (upd H p o):=λb u e=>by rw[zD<|yH e n];show e
def zM.new{G H:Hp}(s:zO G H){p:Addr}{o:HO}(n:H p=none):zM G H (upd G p o) (upd H p o):=
 #[yB<|s.free n,yB n,λb u e=>by
  by_cases hb:b=p
  .subst hb;rw[HA]at e ⊢;show e
  .rw[zD hb]at e ⊢;show s b u e,λb u e k=>by
  by_cases hb:b=p
  .subst hb;show .inl n
  .rw[zD hb]at e;grind]
def zM.newH(s:zO G H)(n:H p=none):zM G H G (upd H p o):=
 #[zO.refl _,yB n,s.trans<|yB n,λb u e k=>by grind]
inductive Fd where
 |l (xs:List D)|m (kvs:List (kC×D))|t (kvs:List (List kC×D))|ml (kvs:List (kC×List D))|tl (kvs:List (List kC×List D))
inductive Fl where
 |v (d:D)|f (x:Fd)
inductive Ob where
 |p (f:Fd)|ins (C:Addr) (fs:List (Str×Fl))
def iG(K:Fg)(G:Hp)(kvs:L (kC×D))(ws:L (kC×V)):=(kvs.map (·.1)=ws.map (·.1)/\EA K G (kvs.map (·.2)) (ws.map (·.2)):Prop)
def iG.mono{K:Fg}{G G':Hp}(s:zO G G'){kvs:L (kC×D)}{ws:L (kC×V)}(h:iG K G kvs ws):iG K G' kvs ws:=#[h.1,EA.mono s _ _ h.2]
noncomputable def Td:V->Op Addr
 |.ref a=>some a
 |_=>none
def zPP(h:Td v>a):v=.ref a:=by
 cases v<;>first|(cases h;done)|(dsimp[Td,DF]at h;rw[h])
def YG{κ:Type}(ws:L (κ×V)):=(ws.filterMap λq=>Td q.2:L Addr)
def zm{κ:Type}{ws:L (κ×V)}:a∈YG ws↔.ref a∈ws.map (·.2):=by
 unfold YG;rw[aB,QA];constructor
 .rintro⟨q,h,e⟩;show#[q,h,zPP e]
 .rintro⟨q,h,e⟩;show#[q,h,by rw[e];rfl]
def JX:Op HO->L Addr
 |some (.dK ws)=>YG ws
 |some (.dT ws)=>YG ws
 |_=>[]
def BE(H:Hp):Fd->Addr->L Addr
 |.l _,a=>[a]
 |.m _,a=>[a]
 |.t _,a=>[a]
 |.ml _,a=>a::JX (H a)
 |.tl _,a=>a::JX (H a)
def tH(H:Hp):Fl->V->L Addr
 |.f x,.ref a=>BE H x a
 |_,_=>[]
noncomputable def ZJ(H:Hp)(fs:L (Str×Fl))(ws:L (Str×V)):L Addr:=fs.flatMap λq=>match ws.lookup q.1 with
 |some u=>tH H q.2 u
 |none=>[]
def IX(H:Hp)(fs:L (Str×Fl)):Op HO->L Addr
 |some (.ins _ dx ws)=>dx::ZJ H fs ws
 |_=>[]
def VD(H:Hp):Ob->Addr->L Addr
 |.p f,a=>BE H f a
 |.ins _ fs,a=>a::IX H fs (H a)
section
variable (K:Fg)(G H:Hp)
def zv:L (L D)->L V->Prop
 | [],vs=>vs=[]
 |xs::r,vs=>∃b us t,vs=.ref b::t/\H b>.lst us/\EA K G xs us/\zv r t
def NL:Fd->Addr->Prop
 |.l xs,a=>∃vs,H a>.lst vs/\EA K G xs vs
 |.m kvs,a=>∃ws,H a>.dK ws/\iG K G kvs ws
 |.t kvs,a=>∃ws,H a>.dT ws/\kvs.map (·.1)=ws.map (·.1)/\EA K G (kvs.map (·.2)) (ws.map (·.2))
 |.ml kvs,a=>∃ws,H a>.dK ws/\kvs.map (·.1)=ws.map (·.1)/\zv K G H (kvs.map (·.2)) (ws.map (·.2))
 |.tl kvs,a=>∃ws,H a>.dT ws/\kvs.map (·.1)=ws.map (·.1)/\zv K G H (kvs.map (·.2)) (ws.map (·.2))
def QP:Fl->V->Prop
 |.v d,u=>Rep K G d u
 |.f x,u=>∃a,u=.ref a/\NL K G H x a
def KN:Ob->Addr->Prop
 |.p f,a=>NL K G H f a
 |.ins C fs,a=>∃dx ws,H a>.ins C dx ws/\H dx>.own a/\(∀q∈fs,∃u,ws.lookup q.1>u/\QP K G H q.2 u)/\(∀x,fs.lookup x=none->ws.lookup x=none)/\ws.length<=fs.length
end
section
variable {K:Fg}{G G' H H':Hp}
theorem zv.there:∀{xs:L (L D)}{vs:L V},zv K G H xs vs->∀b,.ref b∈vs->∃us,H b>.lst us
 | [],_,h,b,m=>by subst h;cases m
 |x::xs,_,h,b,m=>by
  let(c,us,t,rfl,e,r,l):=h;rcases oA.mp m with z|m
  .simp_all
  .show zv.there l b m
theorem zv.same(g:zO G G'):∀{xs:L (L D)}{vs:L V},zv K G H xs vs->(∀b,.ref b∈vs->∀o,H b>o->H' b>o)->zv K G' H' xs vs
 | [],_,h,_=>by assumption
 |x::xs,_,h,m=>by
  let(c,us,t,rfl,e,r,l):=h;show#[c,us,t,rfl,m c (eA ..) _ e,EA.mono g _ _ r,zv.same g l λb z=>m b<|cA _ z]
def NL.head:a∈BE H f a:=by cases f<;>simp[BE]
def NL.thr{f:Fd}{a:Addr}(h:NL K G H f a):∀c∈BE H f a,Ut H c:=by
 intro c m
 cases f with
 |l xs=>let(vs,e,_):=h;dsimp[BE,gA]at m;subst m;show#[_,e,nofun]
 |m xs=>let(vs,e,_):=h;dsimp[BE,gA]at m;subst m;show#[_,e,nofun]
 |t xs=>let(vs,e,_):=h;dsimp[BE,gA]at m;subst m;show#[_,e,nofun]
 |ml xs=>
  let(ws,e,_,l):=h;rcases oA.mp m with z|m
  .subst z;show#[_,e,nofun]
  .rw[e]at m;let(us,z):=l.there c<|zm.mp m;show#[_,z,nofun]
 |tl xs=>
  let(ws,e,_,l):=h;rcases oA.mp m with z|m
  .subst z;show#[_,e,nofun]
  .rw[e]at m;let(us,z):=l.there c<|zm.mp m;show#[_,z,nofun]
def NL.same{f:Fd}{a:Addr}(g:zO G G')(h:NL K G H f a)(k:∀c∈BE H f a,∀o,H c>o->H' c>o):NL K G' H' f a/\BE H' f a=BE H f a:=by
 cases f with
 |l xs=>let(vs,e,r):=h;show#[#[vs,k a NL.head _ e,EA.mono g _ _ r],rfl]
 |m xs=>let(vs,e,r):=h;show#[#[vs,k a NL.head _ e,r.mono g],rfl]
 |t xs=>let(vs,e,q,r):=h;show#[#[vs,k a NL.head _ e,q,EA.mono g _ _ r],rfl]
 |ml xs=>
  let(ws,e,q,l):=h;have e':=k a NL.head _ e;refine#[#[ws,e',q,l.same g λb m o z=>k b ?_ o z],by dsimp[BE];rw[e,e']]
  dsimp[BE];rw[e];show cA _<|zm.mpr m
 |tl xs=>
  let(ws,e,q,l):=h;have e':=k a NL.head _ e;refine#[#[ws,e',q,l.same g λb m o z=>k b ?_ o z],by dsimp[BE];rw[e,e']];dsimp[BE];rw[e];show cA _<|zm.mpr m
def QP.thr{f:Fl}{u:V}(h:QP K G H f u):∀c∈tH H f u,Ut H c:=by
 intro c m
 cases f with
 |v d=>cases u<;>cases m
 |f x=>let(a,rfl,r):=h;show r.thr c m
def QP.same{f:Fl}{u:V}(g:zO G G')(h:QP K G H f u)(k:∀c∈tH H f u,∀o,H c>o->H' c>o):QP K G' H' f u/\tH H' f u=tH H f u:=by
 cases f with
 |v d=>show#[Rep.mono g _ _ h,rfl]
 |f x=>let(a,rfl,r):=h;show#[#[a,rfl,(r.same g k).1],(r.same g k).2]
def aY{ws:L (Str×V)}{q:Str×Fl}(hq:q∈fs)(z:ws.lookup q.1>u)(hc:c∈tH H q.2 u):c∈ZJ H fs ws:=
 sD.mpr #[q,hq,by rw[z];show hc]
def Pb{ws:L (Str×V)}:∀(k:∀q∈fs,∃u,ws.lookup q.1>u/\tH H' q.2 u=tH H q.2 u),ZJ H' fs ws=ZJ H fs ws:=by
 induction fs with
 |nil=>intro _;rfl
 |cons q fs ih=>
  intro k;let(u,e,z):=k q<|eA ..;have:=ih λp m=>k p<|cA _ m
  unfold ZJ at this|-
  simp_all
def KN.head:a∈VD H o a:=by
 cases o with
 |p f=>show NL.head
 |ins C fs=>show eA ..
def KN.thr{o:Ob}{a:Addr}(h:KN K G H o a):∀c∈VD H o a,Ut H c:=by
 cases o with
 |p f=>show NL.thr h
 |ins C fs=>
  let(dx,ws,e1,J,e3,_):=h;intro c m;rcases oA.mp m with z|m
  .subst z;show#[_,e1,nofun]
  .rw[e1]at m;rcases oA.mp m with z|m
   .show z ▸ #[_,J,nofun]
   .let(q,hq,m):=sD.mp m;let(u,e,r):=e3 q hq;rw[e]at m;show r.thr c m
def Ut.there{H:Hp}{c:Addr}(h:Ut H c):∃u,H c>u:=let ⟨u,e,_⟩:=h;#[u,e]
def KN.there{o:Ob}{a:Addr}(h:KN K G H o a):∀c∈VD H o a,∃u,H c>u:=λc m=>(h.thr c m).there
def KN.same{o:Ob}{a:Addr}(g:zO G G')(h:KN K G H o a)(k:∀c∈VD H o a,∀u,H c>u->H' c>u):KN K G' H' o a/\VD H' o a=VD H o a:=by
 cases o with
 |p f=>show NL.same g h k
 |ins C fs=>
  let(dx,ws,e1,O,e3,U):=h;have J:=k a KN.head _ e1;have sub:=λc m=>k c (by dsimp[VD];rw[e1];show cA _ m)
  have fl:∀q∈fs,∃u,ws.lookup _>u/\QP K G' H' _ u/\tH H' _ u=tH H _ u:=λq hq=>by
   let(u,e,r):=e3 q hq;show#[u,e,r.same g λc m=>sub c<|cA _<|aY hq e m]
  refine#[#[dx,ws,J,sub dx (eA ..) _ O,λq hq=>?_,U],?_]
  .let(u,e,r,_):=fl q hq;show#[u,e,r]
  .dsimp[VD];rw[e1,J];dsimp[IX];rw[Pb λq hq=>let ⟨u,e,_,z⟩:=fl q hq;#[u,e,z]]
end
inductive Sl where
 |un|v (d:D)|l (xs:List D)|m (kvs:List (kC×D))
  |o (c:Option Addr) (x:Ob)|b (c:Addr) (x:Ob)
  |z (kvs:List (List kC×D))
noncomputable def Sl.isOwn:Sl->Bool
 |.l _=>true
 |.m _=>true
 |.o _ _=>true
 |_=>false
noncomputable def Sl.isPl:Sl->Bool
 |.l _=>true
 |.m _=>true
 |_=>false
noncomputable def Sl.isObj:Sl->Bool
 |.l _=>true
 |.m _=>true
 |.o _ _=>true
 |.b _ _=>true
 |.z _=>true
 |_=>false
def Sl.own_of_pl{s:Sl}(h:s.isPl=true):s.isOwn=true:=by cases s<;>first|rfl|cases h
def Sl.obj_of_own{s:Sl}(h:s.isOwn=true):s.isObj=true:=by cases s<;>first|rfl|cases h
abbrev XA:=L Sl
abbrev FD:=XA->Op (L D)
abbrev TB:=XA->Op D
abbrev QE:=XA->Op Bool
def ED(H:Hp):Sl->Addr->L Addr
 |.l _,a=>[a]
 |.m _,a=>[a]
 |.o _ x,a=>VD H x a
 |.b _ x,a=>VD H x a
 |_,_=>[]
def gK(K:Fg)(G H:Hp):Sl->Addr->Prop
 |.l xs,a=>∃vs,H a>.lst vs/\EA K G xs vs
 |.m kvs,a=>∃ws,H a>.dK ws/\iG K G kvs ws
 |.o c x,a=>(KN K G H x a/\(VD H x a).Nodup)/\∀c',c>c'->a=c'
 |.b c x,a=>(KN K G H x a/\(VD H x a).Nodup)/\a=c
 |.z kvs,a=>∃od ws,G a>(.frz od<|.dT ws)/\kvs.map (·.1)=ws.map (·.1)/\EA K G (kvs.map (·.2)) (ws.map (·.2))
 |_,_=>False
section
variable {K:Fg}{G G' H H':Hp}{s:Sl}{a:Addr}
def O7(h:s.isPl=true):ED H s a=[a]:=by cases s<;>first|rfl|cases h
def BW(h:s.isOwn=true):a∈ED H s a:=by
 cases s<;>first|(cases h;done)|show gA.mpr rfl|show KN.head
def gK.thr(h:gK K G H s a):∀c∈ED H s a,Ut H c:=by
 cases s with
 |un=>cases h
 |v d=>cases h
 |l xs=>let(vs,e,_):=h;intro c m;cases gA.mp m;show#[_,e,nofun]
 |m xs=>let(vs,e,_):=h;intro c m;cases gA.mp m;show#[_,e,nofun]
 |o c x=>show h.1.1.thr
 |b c x=>show h.1.1.thr
 |z kvs=>intro c m;cases m
def gK.there(h:gK K G H s a):∀c∈ED H s a,∃u,H c>u:=λc m=>(h.thr c m).there
def gK.same(g:zO G G')(h:gK K G H s a)(k:∀c∈ED H s a,∀u,H c>u->H' c>u):gK K G' H' s a/\ED H' s a=ED H s a:=by
 cases s with
 |un=>cases h
 |v d=>cases h
 |l xs=>let(vs,e,r):=h;show#[#[vs,k a (gA.mpr rfl) _ e,EA.mono g _ _ r],rfl]
 |m xs=>let(vs,e,r):=h;show#[#[vs,k a (gA.mpr rfl) _ e,r.mono g],rfl]
 |o c x=>have q:=h.1.1.same g k;show#[#[#[q.1,by rw[q.2];show h.1.2],h.2],q.2]
 |b c x=>have q:=h.1.1.same g k;show#[#[#[q.1,by rw[q.2];show h.1.2],h.2],q.2]
 |z kvs=>let(od,ws,e1,J,e3):=h;show#[#[od,ws,g _ _ e1,J,EA.mono g _ _ e3],rfl]
end
structure Er(K:Fg)(G H:Hp)(ρ:XA)(σ:L2.St):Prop where
 len:ρ.length=σ.length
 val:∀(i:Nat)(d:D),ρ[i]?>.v d->∃v,σ[i]?>some v/\Rep K G d v
 slot:∀(i:Nat)(s:Sl),ρ[i]?>s->s.isObj=true->∃a,σ[i]?>(some<|.ref a)/\gK K G H s a/\∀c∈ED H s a,G c=none
 sep:∀(i j:Nat)(s t:Sl)(a b:Addr),i≠j->ρ[i]?>s->s.isOwn=true->ρ[j]?>t->t.isObj=true->σ[i]?>(some<|.ref a)->σ[j]?>(some<|.ref b)->∀c∈ED H s a,c∉ED H t b
section
variable {K:Fg}{G H G' H':Hp}{ρ:XA}{σ:L2.St}
def Er.own(e:Er K G H ρ σ)(i:Nat)(xs:L D)(h:ρ[i]?>.l xs):∃a vs,σ[i]?>(some<|.ref a)/\G a=none/\H a>.lst vs/\EA K G xs vs:=by
 let(a,h1,(vs,h2,h3),z):=e.slot i _ h rfl;show#[a,vs,h1,z a<|BW rfl,h2,h3]
def Er.dic(e:Er K G H ρ σ)(i:Nat)(kvs:L (kC×D))(h:ρ[i]?>.m kvs):∃a ws,σ[i]?>(some<|.ref a)/\G a=none/\H a>.dK ws/\iG K G kvs ws:=by
 let(a,h1,(vs,h2,h3),z):=e.slot i _ h rfl;show#[a,vs,h1,z a<|BW rfl,h2,h3]
def Er.ownAt(e:Er K G H ρ σ){i:Nat}{s:Sl}(h:ρ[i]?>s)(o:s.isOwn=true):∃a u,σ[i]?>(some<|.ref a)/\G a=none/\H a>u:=by
 let(a,h1,h2,h3):=e.slot i s h<|Sl.obj_of_own o;let(u,q):=h2.there a<|BW o;show#[a,u,h1,h3 a<|BW o,q]
def Er.hop(e:Er K G H ρ σ)(g:zO G G')(k:∀(i:Nat)(s:Sl)(a:Addr),ρ[i]?>s->s.isObj=true->σ[i]?>(some<|.ref a)->∀c∈ED H s a,(∀u,H c>u->H' c>u)/\G' c=none):Er K G' H' ρ σ:=by
 have all:∀(i:Nat)(s:Sl)(a:Addr),ρ[i]?>s->s.isObj=true->σ[i]?>(some<|.ref a)->gK K G' H' s a/\ED H' s a=ED H s a:=λi s a h o q=>by
  let(U,h1,h2,_):=e.slot i s h o;rw[q]at h1;cases h1;show h2.same g λc m=>(k i s a h o q c m).1
 refine#[e.len,λi d h=>let ⟨v,a,b⟩:=e.val i d h;#[v,a,Rep.mono g d v b],λi s h o=>?_,λi j s t a b ne h1 z h2 J q1 O=>?_]
 .let(a,h1,h2,h3):=e.slot i s h o;show#[a,h1,(all i s a h o h1).1,by rw[(all i s a h o h1).2];showλc m=>(k i s a h o h1 c m).2]
 .rw[(all i s a h1 (Sl.obj_of_own z) q1).2,(all j t b h2 J O).2];show e.sep i j s t a b ne h1 z h2 J q1 O
def Er.there(e:Er K G H ρ σ){i:Nat}{s:Sl}{a:Addr}(h:ρ[i]?>s)(o:s.isObj=true)(q:σ[i]?>(some<|.ref a)){c:Addr}(m:c∈ED H s a):(∃u,H c>u)/\G c=none:=by
 let(z,h1,h2,h3):=e.slot i s h o;rw[q]at h1;cases h1;show#[h2.there c m,h3 c m]
def Er.thr(e:Er K G H ρ σ){i:Nat}{s:Sl}{a:Addr}(h:ρ[i]?>s)(o:s.isObj=true)(q:σ[i]?>(some<|.ref a)){c:Addr}(m:c∈ED H s a):Ut H c:=by
 let(z,h1,h2,_):=e.slot i s h o;rw[q]at h1;cases h1;show h2.thr c m
def Er.step(e:Er K G H ρ σ)(t:zM G H G' H'):Er K G' H' ρ σ:=e.hop t.g λi s a h o q c m=>by
 let(_,h2):=e.there h o q m;refine#[λu z=>t.h _ _ z,?_]
 cases z:G' c with
 |none=>rfl
 |some y=>show((e.thr h o q m).not<|t.f c y z h2).elim
end
structure Bs(G0 H0 G H:Hp):Prop where
 gh:zO G H
 gg:zO G0 G
 hh:zO H0 H
 fr:∀b o,G b>o->G0 b=none->Nw H0 b
def Bs.step{G0 H0 G H G' H':Hp}(b:Bs G0 H0 G H)(t:zM G H G' H'):Bs G0 H0 G' H':=
 #[t.s,b.gg.trans t.g,b.hh.trans t.h,λc o e n=>by
  cases q:G c with
  |some o'=>show b.fr c o' q n
  |none=>show(t.f c o e q).back b.hh]
structure uD(K:Fg)(G0 H0 G H:Hp)(ρ:XA)(σ:L2.St):Prop where
 er:Er K G H ρ σ
 bs:Bs G0 H0 G H
 ows:∀(i:Nat)(s:Sl)(a:Addr),ρ[i]?>s->s.isOwn=true->σ[i]?>(some<|.ref a)->∀c∈ED H s a,H0 c=none
section
variable {K:Fg}{G0 H0 G H G' H':Hp}{ρ:XA}{σ:L2.St}
def uD.ow(s:uD K G0 H0 G H ρ σ)(i:Nat)(u:Sl)(a:Addr)(h:ρ[i]?>u)(o:u.isOwn=true)(q:σ[i]?>(some<|.ref a)):H0 a=none:=s.ows i u a h o q a<|BW o
def Er.fp(e:Er K G H ρ σ)(t:zO H H'){i:Nat}{u:Sl}{a:Addr}(h:ρ[i]?>u)(o:u.isObj=true)(q:σ[i]?>(some<|.ref a)):ED H' u a=ED H u a:=by
 let(J,h1,h2,_):=e.slot i u h o;rw[q]at h1;cases h1;show(h2.same (zO.refl _) λc _ v z=>t _ _ z).2
def uD.step(s:uD K G0 H0 G H ρ σ)(t:zM G H G' H'):uD K G0 H0 G' H' ρ σ:=
 #[s.er.step t,s.bs.step t,λi u a h o q=>by rw[s.er.fp t.h h (Sl.obj_of_own o) q];show s.ows i u a h o q]
end
def zd{z:Type}{l:L z}{i j:Nat}{x y:z}(h:(l.set i x)[j]?>y):(j=i/\y=x/\i<l.length)\/(j≠i/\l[j]?>y):=by
 by_cases e:j=i
 .subst e
  have hl:=by
   have:=(vA.mp h).1;simpa using this
  simp_all
 .rw[LA<|Ne.symm e]at h;show .inr #[e,h]
section
variable {K:Fg}{G0 H0 G H G' H':Hp}{ρ:XA}{σ:L2.St}{i:Nat}
theorem uD.setV{d:D}{v:V}(s:uD K G0 H0 G H ρ σ)(r:Rep K G d v):uD K G0 H0 G H (ρ.set i<|.v d) (σ.set i<|some v) where
 bs:=s.bs
 er:={
  len:=‹s.er.len›
  val:=λj d' h=>by
   rcases zd h with⟨rfl,e,hl⟩|⟨hj,h⟩
   .cases e;show#[v,cB (by rw[<- s.er.len];show hl),r]
   .rw[LA<|Ne.symm hj];show s.er.val j d' h
  slot:=λj u h o=>by
   rcases zd h with⟨rfl,e,hl⟩|⟨hj,h⟩
   .subst e;cases o
   .rw[LA<|Ne.symm hj];show s.er.slot j u h o
  sep:=λj k u t a b ne h1 z h2 J q1 O=>by
   rcases zd h1 with⟨rfl,e,_⟩|⟨hj,h1⟩
   .subst e;cases z
   rcases zd h2 with⟨rfl,e,_⟩|⟨hk,h2⟩
   .subst e;cases J
   rw[LA<|Ne.symm hj]at q1;rw[LA<|Ne.symm hk]at O;show s.er.sep j k u t a b ne h1 z h2 J q1 O }
 ows:=λj u a h o q=>by
  rcases zd h with⟨rfl,e,_⟩|⟨hj,h⟩
  .subst e;cases o
  .rw[LA<|Ne.symm hj]at q;show s.ows j u a h o q
def uD.setNew{a:Addr}{w:Sl}(s:uD K G0 H0 G H ρ σ)(t:zM G H G' H')(hw:w.isOwn=true)(hr:gK K G' H' w a)(hn:∀c∈ED H' w a,H c=none/\G' c=none):
  uD K G0 H0 G' H' (ρ.set i w) (σ.set i<|some<|.ref a):=by
 have s':=s.step t
 have O:∀{j:Nat}{u:Sl}{b c:Addr},ρ[j]?>u->u.isObj=true->σ[j]?>_->c∈ED H' u b->c∉ED H' w a:=λ{j u b c} h o q m z=>by
  rw[s.er.fp t.h h o q]at m;let((x,e),_):=s.er.there h o q m;rw[(hn c z).1]at e;cases e
 refine#[#[‹s.er.len›,λj d' h=>?_,λj u h o=>?_,λj k u v b b' ne h1 o1 h2 o2 q1 J=>?_],s'.bs,λj u b h o q=>?_]
 .rcases zd h with⟨rfl,e,_⟩|⟨hj,h⟩
  .subst e;cases hw
  .rw[LA<|Ne.symm hj];show s'.er.val j d' h
 .rcases zd h with⟨rfl,e,hi⟩|⟨hj,h⟩
  .subst e;show#[a,cB (by rw[<- s.er.len];show hi),hr,λc m=>(hn c m).2]
  .rw[LA<|Ne.symm hj];show s'.er.slot j u h o
 .rcases zd h1 with⟨ej,e,hi⟩|⟨hj,cS⟩
  .rw[ej,cB (by rw[<- s.er.len];show hi)]at q1;cases q1;subst e;rcases zd h2 with⟨U,_,_⟩|⟨hk,Y⟩
   .show absurd (ej.trans U.symm) ne
   .rw[LA<|Ne.symm hk]at J
    showλc m z=>O Y o2 J z m
  .rw[LA<|Ne.symm hj]at q1;rcases zd h2 with⟨U,e,hi⟩|⟨hk,Y⟩
   .rw[U,cB (by rw[<- s.er.len];show hi)]at J;cases J;subst e
    showλc m z=>O cS (Sl.obj_of_own o1) q1 m z
   .rw[LA<|Ne.symm hk]at J;show s'.er.sep j k u v b b' ne cS o1 Y o2 q1 J
 .rcases zd h with⟨rfl,e,hi⟩|⟨hj,h⟩
  .rw[cB (by rw[<- s.er.len];show hi)]at q;cases q;subst e
   showλc m=>s.bs.hh.free (hn c m).1
  .rw[LA<|Ne.symm hj]at q;show s'.ows j u b h o q
def uD.setOwn{w:Sl}(s:uD K G0 H0 G H ρ σ)(t:zM G H G' H')(hw:w.isPl=true)(hn:H a=none)(z:G' a=none)(hl:∀xs,w=.l xs->∃vs,H' a>.lst vs/\EA K G' xs vs)(hm:∀kvs,w=.m kvs->∃ws,H' a>.dK ws/\iG K G' kvs ws):
  uD K G0 H0 G' H' (ρ.set i w) (σ.set i<|some<|.ref a):=by
 refine s.setNew t (Sl.own_of_pl hw) ?_ λc m=>?_
 .cases w with
  |l xs=>show hl xs rfl
  |m xs=>show hm xs rfl
  |_=>cases hw
 .rw[O7 hw]at m
  simp_all
def uD.mutN{ρ':XA}{I:Nat->Addr->Sl->Sl->Prop}(s:uD K G0 H0 G H ρ σ)
  (Y:∀{j a u w},I j a u w->ρ[j]?>u/\u.isOwn=true/\w.isOwn=true/\σ[j]?>(some<|.ref a)/\ρ'[j]?>w)
  (hl:ρ'.length=ρ.length) (hk:∀j,(∃a u w,I j a u w)\/((∀a u w,¬ I j a u w)/\ρ'[j]?=ρ[j]?))
  (hG:zO G G') (xV:zO G' H') (hf:∀b o,G' b>o->G b=none->Nw H b\/∃j a u w,I j a u w/\b∈ED H u a)
  (hH:∀b o,H b>o->(∀j a u w,I j a u w->b∉ED H u a)->H' b>o)
  (hr:∀{j a u w},I j a u w->gK K G' H' w a/\∀c∈ED H' w a,((∃j a u w,I j a u w/\c∈ED H u a)\/H c=none)/\G' c=none)
  (hs:∀{j k a u w a' u' w'},j≠k->I j a u w->I k a' u' w'->∀c∈ED H' w a,c∉ED H' w' a'):uD K G0 H0 G' H' ρ' σ:=by
 have off:∀{j:Nat}{u':Sl}{b c:Addr},(∀a u w,¬ I j a u w)->ρ[j]?>u'->u'.isObj=true->σ[j]?>(some<|.ref b)->c∈ED H u' b->∀i a u w,I i a u w->c∉ED H u a:=λ{j u' b c} J h o q m i a u w hi z=>by
  let(h1,h2,_,U,_):=Y hi;show s.er.sep i j u u' a b (λe=>J a u w<|e ▸ hi) h1 h2 h o U q c z m
 have all:∀{j:Nat}{u':Sl}{b:Addr},(∀a u w,¬ I j a u w)->ρ[j]?>u'->u'.isObj=true->σ[j]?>(some<|.ref b)->(gK K G' H' u' b/\ED H' u' b=ED H u' b)/\∀c∈ED H u' b,G' c=none:=λ{j u' b} J h o q=>by
  let(b',h1,h2,h3):=s.er.slot j u' h o;rw[q]at h1;cases h1;refine#[h2.same hG λc m v z=>hH c v z<|off J h o q m,λc m=>?_]
  cases z:G' c with
  |none=>rfl
  |some x=>
   rcases hf c x z (h3 c m) with y|⟨i,a,u,w,hi,y⟩
   .show((h2.thr c m).not y).elim
   .show absurd y<|off J h o q m i a u w hi
 have new:∀{i a u w}{k:Nat}{v':Sl}{b' c:Addr},I i a u w->(∀a u w,¬ I k a u w)->ρ[k]?>v'->v'.isObj=true->σ[k]?>(some<|.ref b')->c∈ED H' w a->c∉ED H' v' b':=λ{i a u w k v' b' c} hi nk h o q m z=>by
  rw[(all nk h o q).1.2]at z;rcases((hr hi).2 c m).1 with⟨i',a',u',w',O,y⟩|y
  .show off nk h o q z i' a' u' w' O y
  .let((x,e),_):=s.er.there h o q z;rw[y]at e;cases e
 have h0:∀{j a u w},I j a u w->∀c∈ED H u a,H0 c=none:=λ{j a u w} hi=>by
  let(h1,h2,_,U,_):=Y hi;show s.ows j u a h1 h2 U
 refine#[#[by rw[hl];show s.er.len,λj d' h=>?_,λj v h o=>?_,λj k v v' b b' ne h1 o1 h2 o2 q1 q2=>?_],#[xV,s.bs.gg.trans hG,λb x e=>?_,λb x e n=>?_],λj v b h o q=>?_]
 .rcases hk j with⟨a,u,w,hi⟩|⟨_,e⟩
  .let(_,_,h3,_,h5):=Y hi;rw[h5]at h;cases h;cases h3
  .rw[e]at h;let(v,e1,e2):=s.er.val j d' h;show#[v,e1,Rep.mono hG _ _ e2]
 .rcases hk j with⟨a,u,w,hi⟩|⟨J,e⟩
  .let(_,_,_,U,h5):=Y hi;rw[h5]at h;cases h;show#[a,U,(hr hi).1,λc m=>((hr hi).2 c m).2]
  .rw[e]at h;let(b,h1,_,_):=s.er.slot j v h o;have q:=all J h o h1;show#[b,h1,q.1.1,by rw[q.1.2];show q.2]
 .rcases hk j with⟨a,u,w,hi⟩|⟨J,e⟩
  .let(_,_,_,U,h5):=Y hi;rw[h5]at h1;cases h1;rw[U]at q1;cases q1;rcases hk k with⟨a',u',w',O⟩|⟨nk,e'⟩
   .let(_,_,_,k4,k5):=Y O;rw[k5]at h2;cases h2;rw[k4]at q2;cases q2;show hs ne hi O
   .rw[e']at h2
    showλc m=>new hi nk h2 o2 q2 m
  .rw[e]at h1;rcases hk k with⟨a',u',w',O⟩|⟨nk,e'⟩
   .let(_,_,_,k4,k5):=Y O;rw[k5]at h2;cases h2;rw[k4]at q2;cases q2
    showλc m z=>new O J h1 (Sl.obj_of_own o1) q1 z m
   .rw[e']at h2;rw[(all J h1 (Sl.obj_of_own o1) q1).1.2,(all nk h2 o2 q2).1.2];show s.er.sep j k v v' b b' ne h1 o1 h2 o2 q1 q2
 .show hH b x (s.bs.hh b x e) λj a u w hi z=>by rw[h0 hi b z]at e;cases e
 .cases q:G b with
  |some o'=>show s.bs.fr b o' q n
  |none=>
   rcases hf b x e q with y|⟨j,a,u,w,hi,y⟩
   .show y.back s.bs.hh
   .show .inl<|h0 hi b y
 .rcases hk j with⟨a,u,w,hi⟩|⟨J,e⟩
  .let(_,_,_,U,h5):=Y hi;rw[h5]at h;cases h;rw[U]at q;cases q;intro c m;rcases((hr hi).2 c m).1 with⟨_,_,_,_,O,y⟩|y
   .show h0 O c y
   .show s.bs.hh.free y
  .rw[e]at h;rw[(all J h (Sl.obj_of_own o) q).1.2];show s.ows j v b h o q
def uD.mutG{u w:Sl}(s:uD K G0 H0 G H ρ σ)(J:ρ[i]?>u)(O:u.isOwn=true)(hw:w.isOwn=true)(ha:σ[i]?>(some<|.ref a))(hG:zO G G')(U:zO G' H')(hf:∀b o,G' b>o->G b=none->Nw H b\/b∈ED H u a)(hH:∀b o,H b>o->b∉ED H u a->H' b>o)(hr:gK K G' H' w a)(hn:∀c∈ED H' w a,(c∈ED H u a\/H c=none)/\G' c=none):uD K G0 H0 G' H' (ρ.set i w) σ:=by
 have r:i=i/\a=a/\u=u/\w=w:=#[rfl,rfl,rfl,rfl]
 refine s.mutN (I:=λj b v x=>j=i/\b=a/\v=u/\x=w) ?_ (by simp) (λj=>?_) hG U (λb o e n=>(hf b o e n).imp id λm=>#[i,a,u,w,r,m]) (λb o e n=>hH b o e<|n i a u w r) ?_ ?_
 .rintro j b v x ⟨rfl,rfl,rfl,rfl⟩;show#[J,O,hw,ha,cB (vA.mp J).1]
 .by_cases e:j=i
  .show .inl #[a,u,w,e,rfl,rfl,rfl]
  .show .inr #[λ_ _ _ h=>e h.1,LA<|Ne.symm e]
 .rintro j b v x ⟨rfl,rfl,rfl,rfl⟩;show#[hr,λc m=>#[(hn c m).1.imp (λz=>#[_,_,_,_,r,z]) id,(hn c m).2]]
 .rintro j k b v x b' Y x' ne ⟨rfl,_⟩ ⟨rfl,_⟩;show absurd rfl ne
def uD.mut{a:Addr}{u w:Sl}(s:uD K G0 H0 G H ρ σ)(U:ρ[i]?>u)(J:u.isPl=true)(hw:w.isPl=true)(ha:σ[i]?>(some<|.ref a))(hl:∀xs,w=.l xs->∃vs,o=.lst vs/\EA K G xs vs)(hm:∀kvs,w=.m kvs->∃ws,o=.dK ws/\iG K G kvs ws):
  uD K G0 H0 G (upd H a o) (ρ.set i w) σ:=by
 let(a',u',e1,Y,e3):=s.er.ownAt U<|Sl.own_of_pl J;rw[ha]at e1;cases e1;refine s.mutG U (Sl.own_of_pl J) (Sl.own_of_pl hw) ha (zO.refl _) (λb x e=>?_) (λb x e n=>by simp_all) (λb x e n=>?_) ?_ λc m=>?_
 .rw[zD<|λz=>by simp_all];show s.bs.gh b x e
 .rw[O7 J]at n;rw[zD<|λz=>n<|gA.mpr z];show e
 .cases w with
  |l xs=>let(vs,h1,h2):=hl xs rfl;show#[vs,by rw[HA,h1],h2]
  |m xs=>let(vs,h1,h2):=hm xs rfl;show#[vs,by rw[HA,h1],h2]
  |_=>cases hw
 .rw[O7 hw]at m;cases gA.mp m;show#[.inl (by rw[O7 J];omega),Y]
end
noncomputable def frz(i:Nat)(ρ:XA):XA:=match ρ[i]? with
 |some (.l xs)=>ρ.set i<|.v<|.lst xs
 |_=>ρ
section
variable {K:Fg}{G0 H0 G H G':Hp}{ρ:XA}{σ:L2.St}{i:Nat}
def uD.frzG{a:Addr}{u:Sl}{d:D}(s:uD K G0 H0 G H ρ σ)(J:ρ[i]?>u)(Y:u.isOwn=true)(ha:σ[i]?>(some<|.ref a))
  (hG:zO G G') (xV:zO G' H) (hf:∀b o,G' b>o->G b=none->b∈ED H u a) (hr:Rep K G' d (.ref a)):uD K G0 H0 G' H (ρ.set i<|.v d) σ:=by
 have off:=λ{j u' b c} ne h o q m z=>
  s.er.sep i j u u' a b (Ne.symm ne) J Y h o ha q c z m
 refine#[#[‹s.er.len›,λj d' h=>?_,λj v h o=>?_,λj k v v' b b' ne h1 O h2 U q1 q2=>?_],#[xV,s.bs.gg.trans hG,s.bs.hh,λb x e n=>?_],λj v b h o q=>?_]
 .rcases zd h with⟨rfl,e,_⟩|⟨hj,h⟩
  .cases e;show#[_,ha,hr]
  .let(v,e1,e2):=s.er.val j d' h;show#[v,e1,Rep.mono hG _ _ e2]
 .rcases zd h with⟨rfl,e,_⟩|⟨hj,h⟩
  .subst e;cases o
  .let(b,h1,h2,h3):=s.er.slot j v h o;refine#[b,h1,(h2.same hG λc m x z=>z).1,λc m=>?_]
   cases z:G' c with
   |none=>rfl
   |some x=>show absurd (hf c x z<|h3 c m)<|off hj h o h1 m
 .rcases zd h1 with⟨rfl,e,_⟩|⟨hj,h1⟩
  .subst e;cases O
  rcases zd h2 with⟨rfl,e,_⟩|⟨hk,h2⟩
  .subst e;cases U
  show s.er.sep j k v v' b b' ne h1 O h2 U q1 q2
 .cases q:G b with
  |some o'=>show s.bs.fr b o' q n
  |none=>show .inl<|s.ows i u a J Y ha b<|hf b x e q
 .rcases zd h with⟨rfl,e,_⟩|⟨hj,h⟩
  .subst e;cases o
  .show s.ows j v b h o q
def uD.frz(i:Nat)(s:uD K G0 H0 G H ρ σ):∃G',zO G G'/\uD K G0 H0 G' H (RD.frz i ρ) σ:=by
 have up:∀{a:Addr}{o:HO}{u:Sl},u.isPl=true->H a>o->G a=none->zO (upd G a o) H/\∀b x,upd G a o b>x->G b=none->b∈ED H u a:=λ{a o u} hp h n=>by
  refine#[λb x e=>?_,λb x e k=>?_]
  .by_cases z:b=a
   .subst z;rw[HA]at e;grind
   .rw[zD z]at e;show s.bs.gh b x e
  .by_cases z:b=a
   .subst z;rw[O7 hp];show gA.mpr rfl
   .rw[zD z,k]at e;cases e
 unfold RD.frz;split
 .rename_i xs h;let(a,vs,h1,h2,h3,J):=s.er.own i xs h;have hG:zO G (upd G a<|.lst vs):=yB h2;show#[_,hG,s.frzG h rfl h1 hG (up (u:=.l xs) rfl h3 h2).1 (up rfl h3 h2).2<|qD.mpr #[a,vs,rfl,vF.of HA,EA.mono hG _ _ J]]
 .show#[G,zO.refl _,s]
end
inductive GG(K:Fg)(G H:Hp):D->V->Prop where
 |fr {d:D} {v:V}:Rep K G d v->GG K G H d v
 |ow {xs:List D} {a:Addr} {vs:List V}:G a=none->H a>.lst vs->EA K G xs vs->GG K G H (.lst xs) (.ref a)
def GG.step{K:Fg}{G H G' H':Hp}{d:D}{v:V}(r:GG K G H d v)(t:zM G H G' H'):GG K G' H' d v:=by
 cases r with
 |fr r=>show .fr<|Rep.mono t.g _ _ r
 |ow h1 h2 h3=>
  refine .ow ?_ (t.h _ _ h2)<|EA.mono t.g _ _ h3;rename_i a _
  cases q:G' a with
  |none=>rfl
  |some o=>show(Ut.not #[_,h2,nofun]<|t.f a o q h1).elim
section
variable {K:Fg}{G H:Hp}
def GG.list{xs:L D}{v:V}(r:GG K G H (.lst xs) v)(s:zO G H):∃a vs,v=.ref a/\vF K H a vs/\EA K G xs vs:=by
 cases r with
 |fr r=>let(a,vs,e,q,t):=qD.mp r;show#[a,vs,e,s.seq q,t]
 |ow h1 h2 h3=>show#[_,_,rfl,vF.of h2,h3]
def GG.rep(r:GG K G H d v)(h:∀xs,d≠.lst xs):Rep K G d v:=by
 cases r with
 |fr r=>show r
 |ow _ _ _=>show absurd rfl<|h _
def GG.int{i:Int}{v:V}(r:GG K G H (.int i) v):v=.int i:=zV.mp (r.rep λ_ z=>by cases z)
def GG.bl{b:Bool}{v:V}(r:GG K G H (.bl b) v):v=.bl b:=zb.mp (r.rep λ_ z=>by cases z)
def GG.str{x:Str}{v:V}(r:GG K G H (.str x) v):v=.str x:=qC.mp (r.rep λ_ z=>by cases z)
def GG.non{v:V}(r:GG K G H .non v):v=.non:=FP.mp (r.rep λ_ z=>by cases z)
def GG.tup{xs:L D}{v:V}(r:GG K G H (.tup xs) v)(s:zO G H):∃a vs,v=.ref a/\HI K H a vs/\EA K G xs vs:=by
 let(a,vs,e,q,t):=uU (r.rep λ_ z=>by cases z);show#[a,vs,e,yp s q,t]
end
def tE(K:Fg)(f:TB):=(λσ H Q=>∃G ρ d,zO G H/\Er K G H ρ σ/\f ρ>d/\∀v G' H',zM G H G' H'->Rep K G' d v->Q v H':TE)
def tR(K:Fg)(f:TB):=(λσ H Q=>∃G ρ d,zO G H/\Er K G H ρ σ/\f ρ>d/\∀v G' H',zM G H G' H'->GG K G' H' d v->Q v H':TE)
noncomputable def tF(K:Fg)(f:FD):TE:=λσ H Q=>∃G ρ xs,zO G H/\Er K G H ρ σ/\f ρ>xs /\
 ∀a vs G' H',zM G H G' H'->H a=none->G' a=none->H' a>.lst vs->EA K G' xs vs->Q (.ref a) H'
def Lx(K:Fg)(f:QE):=(λσ H Q=>∃G ρ b,zO G H/\Er K G H ρ σ/\f ρ>b/\∀G' H',zM G H G' H'->Q b H':TT)
def tAs(K:Fg)(f:FD):=(λσ H Q=>∃G ρ ds,zO G H/\Er K G H ρ σ/\f ρ>ds/\∀vs G' H',zM G H G' H'->EA K G' ds vs->Q vs H':TA)
abbrev SE(X:Cx)(e:Expr)(f:TB):Prop:=PE X e<|tE X.K f
abbrev SR(X:Cx)(e:Expr)(f:TB):Prop:=PE X e<|tR X.K f
abbrev SF(X:Cx)(e:Expr)(f:FD):Prop:=PE X e<|tF X.K f
abbrev SB(X:Cx)(e:Expr)(f:QE):Prop:=PT X e<|Lx X.K f
structure SA(X:Cx)(es:List Expr)(f:FD):Prop where
 pa:PA X es (tAs X.K f)
 len:∀ρ ds,f ρ>ds->ds.length=es.length
def lF{X:Cx}{e:Expr}{t t':TE}(h:PE X e t)(w:∀σ H Q,t' σ H Q->t σ H Q):PE X e t':=λpins s σ H Q I q=>h _ s σ H Q I<|w σ H Q q
def EU{X:Cx}{e:Expr}{t t':TT}(h:PT X e t)(w:∀σ H Q,t' σ H Q->t σ H Q):PT X e t':=λpins s σ H Q I q=>h _ s σ H Q I<|w σ H Q q
def GR(h:PA X e t)(w:∀σ H Q,t' σ H Q->t σ H Q):PA X e t':=λpos pins s σ H Q I q=>h _ _ s σ H Q I<|w σ H Q q
def zf(h:PS X e t)(w:∀Q σ H,t' Q σ H->t Q σ H):PS X e t':=λpins s σ H Q I q=>h _ s σ H Q I<|w Q σ H q
def P7(h:oK X e t)(w:∀Q σ H,t' Q σ H->t Q σ H):oK X e t':=λpins s σ H Q I q=>h _ s σ H Q I<|w Q σ H q
section
variable {X:Cx}{e a b:Expr}{es:L Expr}{f g:TB}{fl:FD}{pos:Pos}
def zWX(h:SE X e f):SR X e f:=lF h λσ H Q ⟨G,ρ,d,s,er,z,k⟩=>#[G,ρ,d,s,er,z,λv G' H' t r=>k v G' H' t<|.fr r]
def Ru{a:Addr}{vs:L V}(t:zM G H G' H')(h1:H a=none)(h2:G' a=none)(h3:H' a>.lst vs):zM G H (upd G' a<|.lst vs) H':=
 #[t.g.trans<|yB h2,t.h,λb u e=>by
  by_cases z:b=a
  .subst z;rw[HA]at e;grind
  .rw[zD z]at e;show t.s b u e,λb u e n=>by
  by_cases z:b=a
  .show .inl<|z ▸ h1
  .rw[zD z]at e;show t.f b u e n]
def zPQ(h:SF X e fl):SE X e (λρ=>(fl ρ).map D.lst):=lF h λσ H Q=>by
 rintro⟨G,ρ,d,s,er,z,k⟩;let(xs,e1,rfl):=bA.mp z;refine#[G,ρ,xs,s,er,e1,λa vs G' H' t h1 h2 h3 r=>?_];show k _ _ H' (Ru t h1 h2 h3)<|qD.mpr #[a,vs,rfl,vF.of HA,EA.mono (yB h2) _ _ r]
noncomputable def NQ(ρ:XA)(i:Nat):Op D:=match ρ[i]? with
 |some (.v d)=>some d
 |_=>none
noncomputable def KU(ρ:XA)(i:Nat):Op D:=match ρ[i]? with
 |some (.v d)=>some d
 |some (.l xs)=>some<|.lst xs
 |_=>none
abbrev gV(i:Nat):XA->Op D:=λρ=>NQ ρ i
abbrev gR(i:Nat):XA->Op D:=λρ=>KU ρ i
abbrev zC(n:Int):XA->Op D:=λ_=>some<|D.int n
abbrev zE{α:Type}:XA->Op (L α):=λ_=>some []
def zS3{ρ:XA}(h:NQ ρ i>d):ρ[i]?>.v d:=by
 unfold NQ at h;split at h
 .simp_all
 .cases h
def zMb{ρ:XA}(h:KU ρ i>d):ρ[i]?>.v d\/∃xs,d=.lst xs/\ρ[i]?>.l xs:=by
 unfold KU at h;split at h
 .cases h;left;assumption
 .cases h;right;show#[_,rfl,01]
 .cases h
def zS4(i:Nat)(h:PE X e (qk i)):SE X e (gV i):=lF h λσ H Q=>by
 rintro⟨G,ρ,d,s,er,z,k⟩;let(v,e1,r):=er.val i d<|zS3 z;show#[v,e1,k v G H (zM.refl s) r]
def zS5(i:Nat)(h:PE X e (qk i)):SR X e (gR i):=lF h λσ H Q=>by
 rintro⟨G,ρ,d,s,er,U,k⟩;rcases zMb U with z|⟨xs,rfl,z⟩
 .let(v,e1,r):=er.val i d z;show#[v,e1,k v G H (zM.refl s)<|.fr r]
 .let(a,vs,e1,J,e3,O):=er.own i xs z;show#[_,e1,k _ G H (zM.refl s)<|.ow J e3 O]
def Ci(h:PE X e (tC v))(r:∀K G,Rep K G d v):SE X e (λ_=>some d):=lF h λσ H Q=>by
 rintro⟨G,ρ,d',s,er,z,k⟩;cases z;show k v G H (zM.refl s)<|r _ _
def zWY{i j}:SE X (.Constant (.int i) j pos) (λ_=>some<|.int i):=Ci Rm λ_ _=>zV.mpr rfl
def zWZ{i j}:SE X (.Constant (.bool i) j pos) (λ_=>some<|.bl i):=Ci S2 λ_ _=>zb.mpr rfl
def zRl{j}:SE X (.Constant .none j pos) (λ_=>some .non):=Ci zV1 λ_ _=>FP.mpr rfl
def zWa{i j}:SE X (.Constant (.str i) j pos) (λ_=>some<|.str i):=Ci zRc λ_ _=>qC.mpr rfl
def rD(K:Fg)(op:D->D->Op D):=(λx y H Q=>∃G dx dy d,zO G H/\GG K G H dx x/\GG K G H dy y/\op dx dy>d/\∀v G' H',zM G H G' H'->Rep K G' d v->Q v H':R2)
noncomputable def b2(f g:TB)(op:D->D->Op D):TB:=λρ=>(f ρ).bind λx=>(g ρ).bind λy=>op x y
def Ey{K:Fg}{op:D->D->Op D}{σ:L2.St}{H:Hp}{Q:VK}(h:tE K (b2 f g op) σ H Q):pW (rD K op) (tR K f) (tR K g) σ H Q:=by
 let(G,ρ,d,s,er,z,k):=h;let(x,e1,z):=aA.mp z;let(y,U,z):=aA.mp z;refine#[G,ρ,x,s,er,e1,λY J H1 t1 r1=>#[J,ρ,y,t1.s,er.step t1,U,λv2 O H2 t2 r2=>?_]];show#[O,x,y,d,t2.s,r1.step t2,r2,z,λv G' H' t r=>k v G' H' ((t1.trans t2).trans t) r]
def C4{z:D->D->Op D}(J:UH X (N8 op) (rD X.K z))(ha:SR X a f)(hb:SR X b g):SE X (.BinOp a op b pos) (b2 f g z):=lF (zWC J ha hb) λ_ _ _ h=>Ey h
def zWb{z:D->D->Op D}(J:UH X (N1 op) (rD X.K z))(ha:SR X a f)(hb:SR X b g)(hm:QB op b=false):SE X (.Compare a [op] [b] pos) (b2 f g z):=lF (zMH J ha hb hm) λ_ _ _ h=>Ey h
noncomputable def GT:D->Op Bool
 |.bl b=>some b
 |_=>none
noncomputable def bB(f:TB):QE:=λρ=>(f ρ).bind GT
def bY{d:D}{b:Bool}(h:GT d>b):d=.bl b:=by
 cases d<;>first|(cases h;rfl)|cases h
def zWc{op:CmpOp}{z:D->D->Op D}(U:UH X (N1 op) (rD X.K z))(ha:SR X a f)(hb:SR X b g)(hm:QB op b=false):SB X (.Compare a [op] [b] pos) (bB<|b2 f g z):=
 EU (Dl U ha hb hm) λσ H Q=>by
  rintro⟨G,ρ,d,s,er,O,k⟩;let(x,e1,J):=aA.mp O;have e3:=bY J;subst e3;show Ey #[G,ρ,_,s,er,e1,λv G' H' t r=>#[d,zb.mp r,k G' H' t]]
def b3(f g h:TB)(o1 o2:D->D->Op D):=(λρ=>(f ρ).bind λx=>(g ρ).bind λy=>(o1 x y).bind λz=>(GT z).bind λk=>if k=true then (h ρ).bind λw=>o2 y w else some (.bl false):TB)
noncomputable def QS(f g:QE):QE:=λρ=>(f ρ).bind λb=>if b=true then g ρ else some false
noncomputable def sV(f g:QE):QE:=λρ=>(f ρ).bind λb=>if b=true then some true else g ρ
noncomputable def ZO(f:QE):QE:=λρ=>(f ρ).map (!·)
abbrev SW(X:Cx)(e:Expr)(f:QE):Prop:=PW X e<|Lx X.K f
def zWd(h:PW X e t)(w:∀σ H Q,t' σ H Q->t σ H Q):PW X e t':=λz pins s σ H Q I q=>h z _ s σ H Q I<|w σ H Q q
def Ky{f:QE}(h:SW X e f):SB X e f:=h.pt
variable {p q:QE}{rest:L Expr}
def zS6(ha:SB X a p):SW X (.BoolOp .And [a] pos) p:=zSY ha
def zWe(ha:SB X a p):SW X (.BoolOp .Or [a] pos) p:=zV3 ha
def zWf(ha:SB X a p)(hb:SW X (.BoolOp .And (b::rest) pos) q):SW X (.BoolOp .And (a::b::rest) pos) (QS p q):=
 zWd (zV4 ha hb) λσ H Q=>by
  rintro⟨G,ρ,d,s,er,z,k⟩;let(c,e1,z):=aA.mp z;refine#[G,ρ,c,s,er,e1,λJ H1 t1=>?_]
  cases c with
  |false=>cases z;show k J H1 t1
  |true=>show#[J,ρ,d,t1.s,er.step t1,z,λG' H' t=>k G' H'<|t1.trans t]
def Y4(ha:SB X a p)(hb:SW X (.BoolOp .Or (b::rest) pos) q):SW X (.BoolOp .Or (a::b::rest) pos) (sV p q):=
 zWd (X2 ha hb) λσ H Q=>by
  rintro⟨G,ρ,d,s,er,z,k⟩;let(c,e1,z):=aA.mp z;refine#[G,ρ,c,s,er,e1,λJ H1 t1=>?_]
  cases c with
  |true=>cases z;show k J H1 t1
  |false=>show#[J,ρ,d,t1.s,er.step t1,z,λG' H' t=>k G' H'<|t1.trans t]
def zWg(ha:SB X a p):SB X (.UnaryOp .Not a pos) (ZO p):=EU (zV5 ha) λσ H Q=>by
 rintro⟨G,ρ,d,s,er,J,k⟩;let(c,e1,rfl):=bA.mp J;show#[G,ρ,c,s,er,e1,λz H1 t1=>k z H1 t1]
noncomputable def Ft:D->Op Bool
 |.non=>some false
 |.bl b=>some b
 |.int i=>some<|i != 0
 |.str x=>if x.length<=sizeLine then some ((x.length:Int) != 0) else none
 |.tup xs=>some<|!xs.isEmpty
 |.lst xs=>some<|!xs.isEmpty
def Ng{K:Fg}{G:Hp}{xs:L D}{vs:L V}(h:EA K G xs vs):xs.isEmpty=vs.isEmpty:=by
 have:=h.length;cases xs<;>cases vs<;>simp_all
noncomputable def lL(f:TB):QE:=λρ=>(f ρ).bind Ft
def zWi(ha:SR X a f)(he:∀J,isTrue a X.env J=(do let v <- J;T9 a.pos;K8 [v] (truthy v))):SB X a (lL f):=
 EU (zPG ha he) λσ H Q=>by
  rintro⟨G,ρ,b,s,er,z,k⟩;let(d,e1,z):=aA.mp z;refine#[G,ρ,d,s,er,e1,λv O H1 t1 r1=>#[b,?_,k O H1 t1]]
  cases d with
  |non=>cases z;rw[r1.non];show rfl
  |bl c=>cases z;rw[r1.bl];show rfl
  |int c=>cases z;rw[r1.int];show rfl
  |str c=>
   dsimp[Ft]at z;split at z
   .rename_i h;cases z;rw[r1.str];show#[h,rfl]
   .cases z
  |tup xs=>cases z;let(a,vs,rfl,q,r):=r1.tup t1.s;show .inr (.inl #[vs,q,by rw[Ng r]])
  |lst xs=>cases z;let(a,vs,rfl,q,r):=r1.list t1.s;show .inl #[vs,q,by rw[Ng r]]
def iM(f g:TB):=(λρ=>(f ρ).bind λx=>(GT x).bind λb=>if b=true then g ρ else some (.bl false):TB)
def Xq(f g:TB):=(λρ=>(f ρ).bind λx=>(GT x).bind λb=>if b=true then some (.bl true) else g ρ:TB)
def S5(f:TB):=(λρ=>(f ρ).bind λx=>(GT x).map λb=>.bl<|!b:TB)
def zWj{op}(h:SE X a f):SE X (.BoolOp op [a] pos) f:=zRe h
def zWk(ha:SE X a f)(hb:SE X (.BoolOp .And (b::rest) pos) g):SE X (.BoolOp .And (a::b::rest) pos) (iM f g):=
 lF (Ro ha hb) λσ H Q=>by
  rintro⟨G,ρ,d,s,er,U,k⟩;let(x,e1,Y):=aA.mp U;let(c,O,J):=aA.mp Y;have e3:=bY O;subst e3;refine#[G,ρ,_,s,er,e1,λv1 z H1 t1 r1=>#[c,zb.mp r1,?_]]
  cases c with
  |false=>cases J;show k _ z H1 t1<|zb.mpr rfl
  |true=>show#[z,ρ,d,t1.s,er.step t1,J,λv G' H' t r=>k v G' H' (t1.trans t) r]
def D4(ha:SE X a f)(hb:SE X (.BoolOp .Or (b::rest) pos) g):SE X (.BoolOp .Or (a::b::rest) pos) (Xq f g):=
 lF (V2 ha hb) λσ H Q=>by
  rintro⟨G,ρ,d,s,er,U,k⟩;let(x,e1,Y):=aA.mp U;let(c,O,J):=aA.mp Y;have e3:=bY O;subst e3;refine#[G,ρ,_,s,er,e1,λv1 z H1 t1 r1=>#[c,zb.mp r1,?_]]
  cases c with
  |true=>cases J;show k _ z H1 t1<|zb.mpr rfl
  |false=>show#[z,ρ,d,t1.s,er.step t1,J,λv G' H' t r=>k v G' H' (t1.trans t) r]
def zWl(ha:SE X a f):SE X (.UnaryOp .Not a pos) (S5 f):=lF (zRf ha) λσ H Q=>by
 rintro⟨G,ρ,d,s,er,z,k⟩;let(x,e1,z):=aA.mp z;let(c,O,rfl):=bA.mp z;have e3:=bY O;subst e3;show#[G,ρ,_,s,er,e1,λU J H1 t1 r1=>#[c,zb.mp r1,k _ J H1 t1<|zb.mpr rfl]]
noncomputable def zA(f:TB)(g:FD):FD:=λρ=>(f ρ).bind λx=>(g ρ).map λxs=>x::xs
def zWm:SA X [] zE:=#[GR zZ λσ H Q=>by rintro⟨G,ρ,d,s,er,z,k⟩;cases z;show k [] G H (zM.refl s) EA.nil,λρ ds h=>by simp_all]
def zS7(ha:SE X e f)(hr:SA X es fl)(hs:wF X e es):SA X (e::es) (zA f fl):=by
 refine#[GR (zP ha hr.pa hs) λσ H Q ⟨G,ρ,d,s,er,z,k⟩=>?_,λρ ds h=>?_]
 .let(x,e1,z):=aA.mp z;let(xs,J,rfl):=bA.mp z;show#[G,ρ,x,s,er,e1,λY O H1 t1 r1=>#[O,ρ,xs,t1.s,er.step t1,J,λvs U H2 t2 r2=>k _ U H2 (t1.trans t2)<|EA.cons (Rep.mono t2.g _ _ r1) r2]]
 .let(x,e1,z):=aA.mp h;let(xs,J,rfl):=bA.mp z;rw[sA,sA,hr.len ρ xs J]
def GS(h:n<=1000):n<=sizeLine:=iJ<|zMZ h
def zWn{x1}(h:SA X es fl)(hl:es.length<=1000):SE X (.Tuple es x1 pos) (λρ=>(fl ρ).map D.tup):=lF (zWI h.pa) λσ H Q=>by
 rintro⟨G,ρ,d,s,er,z,k⟩;let(xs,e1,rfl):=bA.mp z;refine#[G,ρ,xs,s,er,e1,λvs J H1 t1 r1=>#[by rw[<- r1.length,h.len _ _ e1];show GS hl,λp hp=>?_]];show k _ _ _ (t1.trans<|zM.new t1.s hp)<|qm.mpr #[p,vs,rfl,HA,EA.mono (yB<|t1.s.free hp) _ _ r1]
def zWo(h:SA X es fl)(hl:es.length<=1000):SF X (.List es pos) fl:=lF (Ed h.pa) λσ H Q=>by
 rintro⟨G,ρ,xs,s,er,z,k⟩;refine#[G,ρ,xs,s,er,z,λvs J H1 t1 r1=>#[by rw[<- r1.length,h.len _ _ z];show GS hl,λp hp=>?_]];show k p vs J _ (t1.trans<|zM.newH t1.s hp) (t1.h.free hp) (t1.s.free hp) HA r1
def kU(K:Fg)(f:L D->Op D)(n:Nat):=(λvs H Q _=>∃G ds d,zO G H/\EA K G ds vs/\ds.length=n/\f ds>d/\∀v G' H',zM G H G' H'->Rep K G' d v->Q v H':Sp)
def zS8{k n:Nat}{fa:Addr}{fd:K5}{ps:L Str}{F:L D->Op D}{x:Str}{p:Pos}(J:PH X.prog X.w X.K X.mg X.base SH k fa fd ps (kU X.K F n))(hr:qB k X.A)(hg:Gl X x)(hm:X.mg x>.ref fa)(hk:pD X.K (.ref fa)=true)
  (hb:RO X.K fd ps []) (hn:(e::es).length=n) (ha:SA X (e::es) fl) (z:XH x) (he:wF X e es)
  (Y:aG X pos es):SE X (.Call (.Name x p) (e::es) [] pos) (λρ=>(fl ρ).bind F):=
 lF (DW J hr hg hm hk hb .nil FR ha.pa z he Y) λσ H Q=>by
  rintro⟨G,ρ,d,s,er,ef,k⟩;let(xs,e1,U):=aA.mp ef;refine#[G,ρ,xs,s,er,e1,λvs O H1 t1 r1=>?_];change kU _ F n _ H1 Q E0;rw[WA];show#[O,xs,d,t1.s,r1,by rw[ha.len _ _ e1,hn],U,λv G' H' t r=>k v G' H' (t1.trans t) r]
def cR(K:Fg)(op:D->Op D):=(λxs H Q=>∃G d1 d x,xs=[x]/\zO G H/\GG K G H d1 x/\op d1>d/\∀v G' H',zM G H G' H'->Rep K G' d v->Q v H':L V->Hp->VK->Prop)
noncomputable def cF(K:Fg)(op:D->Op (L D)):L V->Hp->VK->Prop:=λxs H Q=>∃G d1 ys x,xs=[x]/\zO G H/\GG K G H d1 x/\op d1>ys /\
 ∀a vs G' H',zM G H G' H'->H a=none->G' a=none->H' a>.lst vs->EA K G' ys vs->Q (.ref a) H'
variable {x:Str}{p1:Pos}{id T:String}
noncomputable def b1(f:TB)(op:D->Op D):TB:=λρ=>(f ρ).bind op
def zWp{K:Fg}{op:D->Op D}{σ:L2.St}{H:Hp}{Q:VK}(h:tE K (b1 f op) σ H Q):Ad (cR K op) (Th (tR K f) CS) σ H Q:=by
 let(G,ρ,d,s,er,z,k):=h;let(d1,e1,z):=aA.mp z;show#[G,ρ,d1,s,er,e1,λO J H1 t1 r1=>#[J,d1,d,O,rfl,t1.s,r1,z,λv G' H' t r=>k v G' H' (t1.trans t) r]]
noncomputable def tP(f:TB)(op:D->Op (L D)):FD:=λρ=>(f ρ).bind op
def zRm{K:Fg}{op:D->Op (L D)}{σ:L2.St}{H:Hp}{Q:VK}(h:tF K (tP f op) σ H Q):Ad (cF K op) (Th (tR K f) CS) σ H Q:=by
 let(G,ρ,d,s,er,z,k):=h;let(d1,e1,z):=aA.mp z;show#[G,ρ,d1,s,er,e1,λO J H1 t1 r1=>#[J,d1,d,O,rfl,t1.s,r1,z,λa vs G' H' t h1 h2 h3 r=>k a vs G' H' (t1.trans t) (t1.h.free h1) h2 h3 r]]
def Pc{op:D->Op D}(hc:X.calm=true->sJ X (.builtin id) (cR X.K op))(O:Gl X x)(hm:X.mg x=none)(hv:oB x>.builtin id)(ha:SR X a f)(hn:x ≠ "__name__")(z:XH x)
  (hs:wF X a []) (SC:X.calm=true) (J:aG X pos []):SE X (.Call (.Name x p1) [a] [] pos) (b1 f op):=
 lF (FS (hc SC) O hm hv (zP ha zZ hs) hn z hs J) λ_ _ _ h=>zWp h
def vz{op:D->Op D}(hc:X.calm=true->sJ X (.type T) (cR X.K op))(O:Gl X x)(hm:X.mg x=none)(hv:oB x>.type T)(ha:SR X a f)(hn:x ≠ "__name__")(z:XH x)
  (hs:wF X a []) (SC:X.calm=true) (J:aG X pos []):SE X (.Call (.Name x p1) [a] [] pos) (b1 f op):=
 lF (Bz (hc SC) O hm hv (zP ha zZ hs) hn z hs J) λ_ _ _ h=>zWp h
def zPT{op:D->Op (L D)}(hc:X.calm=true->sJ X (.builtin id) (cF X.K op))(O:Gl X x)(hm:X.mg x=none)(hv:oB x>.builtin id)(ha:SR X a f)(hn:x ≠ "__name__")(z:XH x)
  (hs:wF X a []) (SC:X.calm=true) (J:aG X pos []):SF X (.Call (.Name x p1) [a] [] pos) (tP f op):=
 lF (FS (hc SC) O hm hv (zP ha zZ hs) hn z hs J) λ_ _ _ h=>zRm h
def zMc{op:D->Op (L D)}(hc:X.calm=true->sJ X (.type T) (cF X.K op))(O:Gl X x)(hm:X.mg x=none)(hv:oB x>.type T)(ha:SR X a f)(hn:x ≠ "__name__")(z:XH x)
  (hs:wF X a []) (SC:X.calm=true) (J:aG X pos []):SF X (.Call (.Name x p1) [a] [] pos) (tP f op):=
 lF (Bz (hc SC) O hm hv (zP ha zZ hs) hn z hs J) λ_ _ _ h=>zRm h
end
inductive Out where
 |nx (ρ:XA)|rt (d:D)|bk (ρ:XA)|ct (ρ:XA)
  |ro (s:Sl)
  |rm (d:D) (ρ:XA)
abbrev AB:=XA->Op Out
def DY(K:Fg)(G0 H0:Hp)(E:MQ):Out->Prop
 |.nx ρ=>∀σ G H,uD K G0 H0 G H ρ σ->E.nx σ H
 |.bk ρ=>∀σ G H,uD K G0 H0 G H ρ σ->E.bk σ H
 |.ct ρ=>∀σ G H,uD K G0 H0 G H ρ σ->E.ct σ H
 |.rt d=>∀v G H,Bs G0 H0 G H->Rep K G d v->E.rt v H
 |.ro s=>∀a G H,Bs G0 H0 G H->gK K G H s a->(∀c∈ED H s a,G c=none/\H0 c=none)->E.rt (.ref a) H
 |.rm d ρ=>∀v σ G H,uD K G0 H0 G H ρ σ->Rep K G d v->E.rt v H
def tS(K:Fg)(F:AB):=(λE σ H=>∃G0 H0 G ρ o,uD K G0 H0 G H ρ σ/\F ρ>o/\DY K G0 H0 E o:TS)
abbrev SS(X:Cx)(s:Stmt)(F:AB):Prop:=PS X s<|tS X.K F
abbrev pK(X:Cx)(s:L Stmt)(F:AB):Prop:=oK X s<|tS X.K F
section
variable {X:Cx}{e a b:Expr}{es:L Expr}{f g:TB}{fl:FD}{p:QE}{pos:Pos}{F F':AB}{st:Stmt}{rest:L Stmt}
noncomputable def sq(F F':AB):AB:=λρ=>(F ρ).bind λo=>match o with
 |.nx ρ'=>F' ρ'
 |o=>some o
def zWq:pK X [] (λρ=>some<|.nx ρ):=P7 zSZ λQ σ H=>by rintro⟨G0,H0,G,ρ,o,st,z,k⟩;cases z;show k σ G H st
def zS9(h1:SS X st F)(h2:pK X rest F'):pK X (st::rest) (sq F F'):=P7 (zJg h1 h2) λQ σ H=>by
 rintro⟨G0,H0,G,ρ,o,st,O,k⟩;let(J,e1,z):=aA.mp O;refine#[G0,H0,G,ρ,J,st,e1,?_]
 cases J with
 |nx ρ'=>showλU G' H' AC=>#[G0,H0,G',ρ',o,AC,z,k]
 |rt d=>cases z;show k
 |ro d=>cases z;show k
 |rm d ρ=>cases z;show k
 |bk d=>cases z;show k
 |ct d=>cases z;show k
def zWr(h1:SS X st F):pK X [st] F:=Qj h1
def zWs(i:Nat)(h:pK X rest F):pK X rest (λρ=>F<|frz i ρ):=P7 h λQ σ H=>by
 rintro⟨G0,H0,G,ρ,o,st,z,k⟩;let(G',J,AC):=st.frz i;show#[G0,H0,G',frz i ρ,o,AC,z,k]
def zTA:SS X (.Continue pos) (λρ=>some<|.ct ρ):=zf zIn λQ σ H=>by rintro⟨G0,H0,G,ρ,o,st,z,k⟩;cases z;show k σ G H st
noncomputable def qc(f:TB):AB:=λρ=>(f ρ).map .rt
def zWt(he:SE X e f):SS X (.Return (some e) pos) (qc f):=zf (iY he) λQ σ H=>by
 rintro⟨G0,H0,G,ρ,o,st,z,k⟩;let(d,e1,rfl):=bA.mp z;show#[G,ρ,d,st.bs.gh,st.er,e1,λv G' H' t r=>k v G' H' (st.bs.step t) r]
def zMd{x:Str}{q:Pos}(i:Nat)(he:PE X (.Name x q) (qk i)):SS X (.Return (some<|.Name x q) pos) (qc λρ=>KU ρ i):=zf (iY he) λQ σ H=>by
 rintro⟨G0,H0,G,ρ,o,st,J,k⟩;let(d,e1,rfl):=bA.mp J;rcases zMb e1 with e3|⟨xs,rfl,e3⟩
 .let(v,q,r):=st.er.val i d e3;show#[v,q,k v G H st.bs r]
 .let(G',O,AC):=st.frz i;have z:frz i ρ=ρ.set i (.v<|.lst xs):=by unfold frz;rw[e3]
  rw[z]at AC;let(v,q,r):=AC.er.val i _<|cB (vA.mp e3).1;show#[v,q,k v G' H AC.bs r]
noncomputable def DE(c:QE)(F F':AB):AB:=λρ=>(c ρ).bind λb=>if b=true then F ρ else F' ρ
def P4(hc:SB X c p)(ha:pK X A F)(hb:pK X B F'):SS X (.If c A B pos) (DE p F F'):=zf (Tf hc ha hb) λQ σ H=>by
 rintro⟨G0,H0,G,ρ,o,st,J,k⟩;let(d,e1,z):=aA.mp J;refine#[G,ρ,d,st.bs.gh,st.er,e1,λG' H' t=>?_]
 cases d with
 |true=>show#[G0,H0,G',ρ,o,st.step t,z,k]
 |false=>show#[G0,H0,G',ρ,o,st.step t,z,k]
noncomputable def zw(i:Nat)(f:TB):AB:=λρ=>(f ρ).map λd=>.nx<|ρ.set i<|.v d
noncomputable def yJ(i:Nat)(f:FD):AB:=λρ=>(f ρ).map λd=>.nx<|ρ.set i<|.l d
variable {i:Nat}{x:Str}{pos':Pos}
def zWu(i:Nat)(he:SE X e f)(J:X.N.Nodup)(hi:X.N[i]?>x)(hx:Loc X.env.scope x)(hs:cI X e (some<|.Name x pos') pos)
  (hf:aM X x):SS X (.Assign [.Name x pos'] e pos) (zw i f):=
 zf (GQ J hi hx he hs hf) λQ σ H=>by
  rintro⟨G0,H0,G,ρ,o,st,z,k⟩;let(d,e1,rfl):=bA.mp z;show#[G,ρ,d,st.bs.gh,st.er,e1,λv G' H' t r=>k _ G' H'<|(st.step t).setV r]
def zTB(i:Nat)(he:SF X e fl)(O:X.N.Nodup)(hi:X.N[i]?>x)(hx:Loc X.env.scope x)(hs:cI X e (some<|.Name x pos') pos)
  (hf:aM X x):SS X (.Assign [.Name x pos'] e pos) (yJ i fl):=
 zf (GQ O hi hx he hs hf) λQ σ H=>by
  rintro⟨G0,H0,G,ρ,o,st,J,k⟩;let(d,e1,rfl):=bA.mp J;refine#[G,ρ,d,st.bs.gh,st.er,e1,λa vs G' H' t h1 h2 h3 r=>k _ G' H'<|st.setOwn t rfl h1 h2 (λxs z=>?_) λ_ z=>by cases z];cases z;show#[vs,h3,r]
def tGt(K:Fg)(g:D->XA->Op XA):=(λv σ H Q=>∃G0 H0 G ρ d ρ',uD K G0 H0 G H ρ σ/\Rep K G d v/\g d ρ>ρ'/\∀ZC,uD K G0 H0 G H ρ' ZC->Q ZC H:TG)
def Ln(K:Fg)(g:L D->XA->Op XA):=(λvs σ H Q=>∃G0 H0 G ρ ds ρ',uD K G0 H0 G H ρ σ/\EA K G ds vs/\g ds ρ>ρ'/\∀ZC,uD K G0 H0 G H ρ' ZC->Q ZC H:lV)
abbrev SG(X:Cx)(e:Expr)(g:D->XA->Op XA):Prop:=PG X e<|tGt X.K g
abbrev f9(X:Cx)(e:L Expr)(g:L D->XA->Op XA):Prop:=iV X e<|Ln X.K g
def zWv(h:PG X e t)(w:∀v σ H Q,t' v σ H Q->t v σ H Q):PG X e t':=λpins s σ H v u Q I r q=>h _ s σ H v u Q I r<|w v σ H Q q
def zRn{X:Cx}{e:L Expr}{t t':lV}(h:iV X e t)(w:∀v σ H Q,t' v σ H Q->t v σ H Q):iV X e t':=λpins s σ H v u Q I r q=>h _ s σ H v u Q I r<|w v σ H Q q
noncomputable def gN(i:Nat):D->XA->Op XA:=λd ρ=>some<|ρ.set i<|.v d
def zTC(i:Nat)(z:X.N.Nodup)(hi:X.N[i]?>x)(hx:Loc X.env.scope x)(hf:aM X x):SG X (.Name x pos) (gN i):=
 zWv (zSb z hi hx hf) λv σ H Q=>by
  rintro⟨G0,H0,G,ρ,d,ρ',st,r,e,k⟩;cases e;show k _<|st.setV r
noncomputable def MF:L D->XA->Op XA:=λds ρ=>match ds with
 | []=>some ρ
 |_=>none
noncomputable def FE(g:D->XA->Op XA)(gs:L D->XA->Op XA):L D->XA->Op XA:=λds ρ=>match ds with
 | []=>none
 |d::r=>(g d ρ).bind λρ'=>gs r ρ'
def zTD:f9 X [] MF:=zRn zSc λv σ H Q=>by
 rintro⟨G0,H0,G,ρ,ds,ρ',st,r,e,k⟩
 cases ds with
 |nil=>cases e;show#[zc.mp r,k σ st]
 |cons _ _=>cases e
def zPU{gd:D->XA->Op XA}{gs:L D->XA->Op XA}(h1:SG X e gd)(h2:f9 X es gs)(hs:(N3 (e::es) X.env).map (·.2)=bj e X.env::(N3 es X.env).map (·.2)):f9 X (e::es) (FE gd gs):=
 zRn (zPE h1 h2 hs) λvs σ H Q=>by
  rintro⟨G0,H0,G,ρ,ds,ρ',st,r,e,k⟩
  cases ds with
  |nil=>cases e
  |cons d ds=>
   let(v,O,rfl,U,rs):=zL.mp r;let(z,e1,J):=aA.mp e;show#[v,O,rfl,G0,H0,G,ρ,d,z,st,U,e1,λY AC=>#[G0,H0,G,z,ds,ρ',AC,rs,J,k]]
noncomputable def gT(n:Nat)(gs:L D->XA->Op XA):D->XA->Op XA:=λd ρ=>match d with
 |.tup ds=>if ds.length=n then gs ds ρ else none
 |_=>none
def zWw{gs:L D->XA->Op XA}(hc:X.calm=true)(h:f9 X es gs)(hn:(N3 es X.env).length=n)(z:(N3 es X.env).findIdx? (·.1)=none):SG X (.Tuple es k pos) (gT n gs):=
 zWv (zV8 hc h hn z) λv σ H Q=>by
  rintro⟨G0,H0,G,ρ,d,ρ',st,r,e,k⟩
  cases d with
  |tup ds=>
   dsimp[gT]at e;split at e
   .rename_i hl;let(a,vs,rfl,q,rs):=uU r;show#[a,vs,rfl,yp st.bs.gh q,by rw[<- rs.length];show hl,G0,H0,G,ρ,ds,ρ',st,rs,e,k]
   .cases e
  |_=>cases e
noncomputable def n8(f:TB)(g:D->XA->Op XA):AB:=λρ=>(f ρ).bind λd=>(g d ρ).map .nx
def zWx{gd:D->XA->Op XA}(he:SE X e f)(O:SG X tg gd)(hs:lH [tg] e pos.line X.env=pure false)(hw:kH [tg] e X.env=pure none)(h1:(N3 [tg] X.env).map (·.2)=[bj tg X.env]):SS X (.Assign [tg] e pos) (n8 f gd):=
 zf (Eb he O hs hw h1) λQ σ H=>by
  rintro⟨G0,H0,G,ρ,o,st,J,k⟩;let(d,e1,z):=aA.mp J;let(ρ',e3,rfl):=bA.mp z;show#[G,ρ,d,st.bs.gh,st.er,e1,λv G' H' t r=>#[G0,H0,G',ρ,d,ρ',st.step t,r,e3,λU AC=>k _ G' H' AC]]
structure bP(K:Fg)(G:Hp)(J:It)(ds:List D):Prop where
 go:∀i H,zO G H->i<ds.length->J.go i H
 stop:∀i H,zO G H->ds.length<=i->J.stop i H
 yld:∀i G1 H x H',zO G G1->zO G1 H->i<ds.length->J.yld i H x H'->∃G2,zM G1 H G2 H'/\∀d,ds[i]?>d->Rep K G2 d x
def tI(K:Fg)(f:FD):=(λσ H R=>∃G ρ ds,zO G H/\Er K G H ρ σ/\f ρ>ds/\∀J G' H',zM G H G' H'->bP K G' J ds->R J H':TI)
abbrev SI(X:Cx)(tg iter:Expr)(f:FD):Prop:=PI X tg iter<|tI X.K f
def Ez(h:PI X tg e t)(w:∀σ H Q,t' σ H Q->t σ H Q):PI X tg e t':=λpins s σ H Q I q=>h _ s σ H Q I<|w σ H Q q
noncomputable def zJ(g:D->XA->Op XA)(F:AB):L D->XA->Op Out
 | [],ρ=>some<|.nx ρ
 |d::ds,ρ=>(g d ρ).bind λRE=>(F RE).bind λo=>match o with
  |.nx ρ'=>zJ g F ds ρ'
  |.ct ρ'=>zJ g F ds ρ'
  |.bk ρ'=>some<|.nx ρ'
  |.rt d=>some<|.rt d
  |.ro s=>some<|.ro s
  |.rm d ρ=>some<|.rm d ρ
noncomputable def zN(f:FD)(g:D->XA->Op XA)(F:AB):AB:=λρ=>(f ρ).bind λds=>zJ g F ds ρ
def zn(H:Hp)(ρ:XA)(σ:L2.St):=(λb=>@ite _ (∃(i:Nat)(s:Sl)(a:Addr),ρ[i]?>s/\s.isOwn=true/\σ[i]?>(some<|.ref a)/\b∈ED H s a) (Classical.propDecidable _) none (H b):Hp)
def Na:zO (zn H ρ σ) H:=λb o e=>by
 unfold zn at e;split at e
 .cases e
 .show e
def Nh{ρ:XA}{σ:L2.St}{b a:Addr}{i:Nat}{s:Sl}(h:ρ[i]?>s)(o:s.isOwn=true)(q:σ[i]?>(some<|.ref a))(m:b∈ED H s a):zn H ρ σ b=none:=by
 unfold zn;rw[if_pos #[i,s,a,h,o,q,m]]
def uD.base{K:Fg}{G0 H0 G H:Hp}{ρ:XA}{σ:L2.St}(s:uD K G0 H0 G H ρ σ):uD K G (zn H ρ σ) G H ρ σ/\zO G0 G/\zO H0 (zn H ρ σ):=by
 refine#[#[s.er,#[s.bs.gh,zO.refl _,Na,λb o e n=>by simp_all],λi u a h o q c m=>Nh h o q m],s.bs.gg,λb o e=>?_];unfold zn;split
 .rename_i h;let(i,u,a,h1,h2,h3,z):=h;rw[s.ows i u a h1 h2 h3 b z]at e;cases e
 .show s.bs.hh b o e
def Bs.back(f:∀b o,G1 b>o->G0 b=none->Nw H0 b)(g:zO G0 G1)(h:zO H0 H1)(b:Bs G1 H1 G H):Bs G0 H0 G H:=
 #[b.gh,g.trans b.gg,h.trans b.hh,λc o e n=>by
  cases q:G1 c with
  |some o'=>show f c o' q n
  |none=>show(b.fr c o e q).back h]
def uD.back{K:Fg}{G0 H0 z H1 G H:Hp}{ρ:XA}{σ:L2.St}(f:∀b o,z b>o->G0 b=none->Nw H0 b)(g:zO G0 z)(h:zO H0 H1)(s:uD K z H1 G H ρ σ):uD K G0 H0 G H ρ σ:=
 #[s.er,s.bs.back f g h,λi u a q o p c m=>h.free<|s.ows i u a q o p c m]
def DY.back{K:Fg}{G0 H0 z H1:Hp}{E:MQ}{o:Out}(f:∀b o,z b>o->G0 b=none->Nw H0 b)(g:zO G0 z)(h:zO H0 H1)(k:DY K G0 H0 E o):DY K z H1 E o:=by
 cases o with
 |nx ρ=>showλσ G H s=>k σ G H<|s.back f g h
 |bk ρ=>showλσ G H s=>k σ G H<|s.back f g h
 |ct ρ=>showλσ G H s=>k σ G H<|s.back f g h
 |rt d=>showλv G H b r=>k v G H (b.back f g h) r
 |ro s=>showλa G H b r n=>k a G H (b.back f g h) r λc m=>#[(n c m).1,h.free (n c m).2]
 |rm d ρ=>showλv σ G H s r=>k v σ G H (s.back f g h) r
def zWy{body:L Stmt}{gd:D->XA->Op XA}(hp:dh (F4 X.prog X.w) X.A X.env X.xe)(hc:X.calm=true)(hi:SI X tg iter fl)(hg:SG X tg gd)(hb:pK X body F)(hs:∀x,IC iter X.env x=pure x):SS X (.For tg iter body [] pos) (zN fl gd F):=
 zf (zWB hp hc hi hg hb hs) λE σ H=>by
  rintro⟨G0,H0,G,ρ,o,st,ef,k⟩;let(ds,e1,e2):=aA.mp ef;refine#[G,ρ,ds,st.bs.gh,st.er,e1,λJ O H1 t1 it=>?_];let(iO,sg,sh):=(st.step t1).base;have k1:=k.back (st.step t1).bs.fr sg sh;generalize hH:zn H1 ρ σ=Vb at iO k1 sh;refine#[λi m ZC H'=>m=ds.length-i/\i<=ds.length/\∃G' ρ',uD _ O _ G' H' ρ' ZC/\zJ gd F (ds.drop i) ρ'>o,#[ds.length,by simp,LB _,O,ρ,iO,‹e2›],?_];rintro i m Fv H2 ⟨rfl,hi,G2,PU,ZH,Y⟩;by_cases cJ:i<ds.length
  .right
   have ed:=sE cJ;rw[ed]at Y;let(U,e3,e4):=aA.mp Y;let(o3,e5,z):=aA.mp e4;refine#[it.go i H2 (ZH.bs.gg.trans ZH.bs.gh) cJ,λZC H'=>∃G' ρ',uD _ O _ G' H' _ _/\zJ gd F _ _>o,λZC H' h=>#[ds.length-(i+1),01,rfl,cJ,h],λx H' y=>?_];let(G3,t3,r3):=it.yld i G2 H2 x H' ZH.bs.gg ZH.bs.gh cJ y;refine#[O,Vb,G3,PU,ds[i],U,ZH.step t3,r3 _ (by simp[cJ]),e3,λσ4 Lf=>#[O,Vb,G3,U,o3,Lf,e5,?_]]
   cases o3 with
   |nx ρ'=>showλLR G5 H5 cM=>#[G5,ρ',cM,z]
   |ct ρ'=>showλLR G5 H5 cM=>#[G5,ρ',cM,z]
   |bk ρ'=>cases z;show k1
   |rt d=>cases z;show k1
   |ro d=>cases z;show k1
   |rm d ρ=>cases z;show k1
  .left
   have e:i=ds.length:=01
   subst e;rw[xJ]at Y;cases Y;show#[it.stop _ H2 (ZH.bs.gg.trans ZH.bs.gh)<|wA _,k1 _ G2 H2 ZH]
noncomputable def RM(c:QE)(F:AB):Nat->XA->Op Out
 |0,_=>none
 |n+1,ρ=>(c ρ).bind λb=>if b=true then (F ρ).bind λo=>match o with
   |.nx ρ'=>RM c F n ρ'
   |.ct ρ'=>RM c F n ρ'
   |.bk ρ'=>some<|.nx ρ'
   |.rt d=>some<|.rt d
   |.ro s=>some<|.ro s
   |.rm d ρ=>some<|.rm d ρ
  else some (.nx ρ)
def HW(n:Nat)(p:QE)(F:AB):=(λρ=>RM p F n ρ:AB)
def zPW(n:Nat)(hp:dh (F4 X.prog X.w) X.A X.env X.xe)(hc:SB X c p)(hb:pK X body F):SS X (.While c body [] pos) (HW n p F):=
 zf (zJi hp hc hb) λE σ H=>by
  rintro⟨G0,H0,G,ρ,o,st,ef,k⟩;refine#[λm O H'=>∃G' ρ',uD _ G0 H0 G' H' ρ' O/\RM p F m ρ'>o,#[n,G,ρ,st,ef],?_];rintro m Fv H2 ⟨G2,PU,ZH,II⟩
  cases m with
  |zero=>cases II
  |succ m=>
   let(b,e1,e2):=aA.mp II;refine#[G2,PU,b,ZH.bs.gh,ZH.er,e1,λY H3 t3=>?_]
   cases b with
   |false=>
    cases e2
    show k _ Y H3<|ZH.step t3
   |true=>
    let(o3,e5,z):=aA.mp e2;refine#[λO H'=>∃G' ρ',uD _ G0 H0 G' H' _ _/\RM p F m _>o,λO H' h=>#[m,uE _,h],G0,H0,Y,PU,o3,ZH.step t3,e5,?_]
    cases o3 with
    |nx ρ'=>showλLR J H5 U=>#[J,ρ',U,z]
    |ct ρ'=>showλLR J H5 U=>#[J,ρ',U,z]
    |bk ρ'=>cases z;show k
    |rt d=>cases z;show k
    |ro d=>cases z;show k
    |rm d ρ=>cases z;show k
theorem zTE{K:Fg}{G:Hp}{a:Addr}{vs:L V}{ds:L D}(h:vF K G a vs)(r:EA K G ds vs):bP K G (Gj K a) ds where
 go:=λi H s hi=>#[vs,vs[i]'(by rw[<- r.length];show hi),s.seq h,by simp[hi]]
 stop:=λi H s hi=>#[vs,s.seq h,by rw[<- r.length];show hi]
 yld:=λi z H x H' s1 s hi y=>by
  let(rfl,y):=y;refine#[z,zM.refl s,λd e=>?_];let(v,e1,J):=r.get e;have:=y vs<|(s1.trans s).seq h;rw[e1]at this;cases this;show Rep.mono s1 _ _ J
theorem zWz{K:Fg}{G:Hp}{a:Addr}{vs:L V}{ds:L D}(h:HI K G a vs)(r:EA K G ds vs):bP K G (Gk K a) ds where
 go:=λi H s hi=>#[vs,vs[i]'(by rw[<- r.length];show hi),yp s h,by simp[hi]]
 stop:=λi H s hi=>#[vs,yp s h,by rw[<- r.length];show hi]
 yld:=λi z H x H' s1 s hi y=>by
  let(rfl,y):=y;refine#[z,zM.refl s,λd e=>?_];let(v,e1,J):=r.get e;have:=y vs<|yp (s1.trans s) h;rw[e1]at this;cases this;show Rep.mono s1 _ _ J
noncomputable def rng(lo:Int)(n:Nat):L D:=(DA n).map λ(i:Nat)=>D.int<|lo+(i:Int)
theorem zRo{K:Fg}{G:Hp}(lo:Int)(n:Nat):bP K G (L2.bZ lo n) (rng lo n) where
 go:=λi H s hi=>by change i<n;simpa[rng] using hi
 stop:=λi H s hi=>by change n<=i;simpa[rng] using hi
 yld:=λi z H x H' s1 s hi y=>by
  let(rfl,rfl):=y;refine#[z,zM.refl s,λd e=>?_];dsimp[rng,MA,lA,dE]at e hi;rw[List.getElem?_range hi]at e;cases e;rfl
noncomputable def j9:D->Op (L D)
 |.lst xs=>some xs
 |_=>none
noncomputable def asT:D->Op (L D)
 |.tup xs=>some xs
 |_=>none
noncomputable def iL(f:TB):FD:=λρ=>(f ρ).bind j9
noncomputable def iT(f:TB):FD:=λρ=>(f ρ).bind asT
variable {tg:Expr}
def zTF(h:SE X e f):SI X tg e (iL f):=Ez (zSd h) λσ H R=>by
 rintro⟨G,ρ,ds,s,er,J,k⟩;let(d,e1,z):=aA.mp J
 cases d with
 |lst xs=>
  cases z;refine#[G,ρ,_,s,er,e1,λv G' H' t r=>?_];let(a,vs,rfl,q,rs):=qD.mp r
  show#[a,rfl,#[vs,t.s.seq q],k _ G' H' t<|zTE q rs]
 |_=>cases z
def zW0(h:SE X e f):SI X tg e (iT f):=Ez (zWA h) λσ H R=>by
 rintro⟨G,ρ,ds,s,er,J,k⟩;let(d,e1,z):=aA.mp J
 cases d with
 |tup xs=>
  cases z;refine#[G,ρ,_,s,er,e1,λv G' H' t r=>?_];let(a,vs,rfl,q,rs):=uU r
  show#[a,rfl,#[vs,yp t.s q],k _ G' H' t<|zWz q rs]
 |_=>cases z
noncomputable def inR(j:Int):Bool:=decide (-(2 ^ 62)<=j)&&decide (j<2 ^ 62)
def cY(h:inR j=true): -(2 ^ 62)<=j/\j<2 ^ 62:=by simpa[inR] using h
noncomputable def WH(f:FD):FD:=λρ=>(f ρ).bind λds=>match ds with
 | [.int j]=>if inR j=true then some (rng 0 j.toNat) else none
 |_=>none
noncomputable def Ws(f:FD):FD:=λρ=>(f ρ).bind λds=>match ds with
 | [.int i,.int j]=>if (inR i&&inR j)=true then some (rng i (j-i).toNat) else none
 |_=>none
def zMe{p pos:Pos}(O:Gl X "range")(hm:X.mg "range" = none)(ha:SA X [a] fl)(hs:F7 [a] X.env=[(false,eval a X.env)]):SI X tg (.Call (.Name "range" p) [a] [] pos) (WH fl):=
 Ez (zME O hm ha.pa hs) λσ H R=>by
  rintro⟨G,ρ,ds,s,er,J,k⟩;let(xs,e1,z):=aA.mp J;split at z
  .rename_i j;split at z
   .rename_i hj;cases z;refine#[G,ρ,_,s,er,e1,λvs G' H' t r=>?_];let(v,U,rfl,r1,r2):=zL.mp r;have:=zc.mp r2;subst this;show#[j,by rw[zV.mp r1],(cY hj).1,(cY hj).2,k _ G' H' t<|zRo _ _]
   .cases z
  .cases z
def zMf{p pos:Pos}(U:Gl X "range")(hm:X.mg "range" = none)(ha:SA X [a,b] fl)(hs:F7 [a,b] X.env=[(false,eval a X.env),(false,eval b X.env)])(J:F7 [b] X.env=[(false,eval b X.env)]):SI X tg (.Call (.Name "range" p) [a,b] [] pos) (Ws fl):=
 Ez (zMF U hm ha.pa hs J) λσ H R=>by
  rintro⟨G,ρ,ds,s,er,O,k⟩;let(xs,e1,z):=aA.mp O;split at z
  .rename_i i j;split at z
   .rename_i hj;cases z;rw[XB]at hj;refine#[G,ρ,_,s,er,e1,λvs G' H' t r=>?_];let(v,r',rfl,r1,r2):=zL.mp r;let(v',Y,rfl,r3,r4):=zL.mp r2;have:=zc.mp r4;subst this;show#[i,j,by rw[zV.mp r1,zV.mp r3],#[(cY hj.1).1,(cY hj.1).2,(cY hj.2).1,(cY hj.2).2],k _ G' H' t<|zRo _ _]
   .cases z
  .cases z
noncomputable def gL(ρ:XA)(i:Nat):Op (L D):=match ρ[i]? with
 |some (.l xs)=>some xs
 |_=>none
def Fb{ρ:XA}(h:gL ρ i>xs):ρ[i]?>.l xs:=by
 unfold gL at h;split at h
 .simp_all
 .cases h
end
noncomputable def BI(N:L Str)(F:AB)(ds:L D):Op D:=(F<|ds.map Sl.v++nA (N.length-ds.length) .un).bind λo=>match o with
 |.rt d=>some d
 |.nx _=>some .non
 |_=>none
def Pd{K:Fg}{G H:Hp}{N:L Str}{ds:L D}{vs:L V}(r:EA K G ds vs):Er K G H (ds.map Sl.v++nA (N.length-ds.length) .un) (L2.dM N vs):=by
 have hl:=r.length
 have low:∀{i:Nat}{s:Sl},(ds.map Sl.v++nA (N.length-ds.length) .un)[i]?>s->s=.un\/∃d,s=.v d/\ds[i]?>d:=λ{i s} h=>by
  by_cases hi:i<ds.length
  .rw[NA ‹hi›,MA]at h
   cases q:ds[i]? with
   |none=>rw[q]at h;cases h
   |some d=>rw[q]at h;cases h;show .inr #[d,rfl,rfl]
  .rw[eB ‹hi›,DB]at h;split at h<;>cases h;show .inl rfl
 refine#[by simp[L2.dM,hl],λi d h=>?_,λi u h o=>?_,λi j s t a b ne h1 O h2 U q1 Y=>?_]
 .rcases low h with z|⟨d',z,q⟩
  .cases z
  .cases z;let(v,e1,J):=r.get q;have hi:=(vA.mp e1).1;refine#[v,?_,J];unfold L2.dM;rw[NA ‹hi›,MA,e1];rfl
 .rcases low h with z|⟨d',z,q⟩<;>subst z<;>cases o
 .rcases low h1 with z|⟨d',z,q⟩<;>subst z<;>cases O
def bK{P:F6}{w:F9}{K:Fg}{mg:AF}{base:Heap}{x qual:Str}{st:Stmt}{fa:Addr}{fd:K5}{N ps:L Str}{k:Nat}{F:AB}{f:L D->Op D}
  (U:XJ K x qual st fa fd) (S:yA N ps (zH st))
  (Y:∀(J:F3)(A:F8)(outer:L Env)(s:F2)(H:Hp),qB k (A.deeper<|N9 qual (zH st) s.heap.objs.size fa J)->pK (sO SH P w K mg base N qual (zH st) fa J A outer s H E0).nox (yI st) F)
  (hf:∀ds d,ds.length=ps.length->f ds>d->BI N F ds>d):PH P w K mg base SH (k+1) fa fd ps (kU K f ps.length):=by
 refine U.ok S (λvs H Q E h=>?_) (λJ A outer s H vs Q E hr h=>?_)
 .let(G,ds,d,_,r,hn,_):=h;rw[<- r.length,hn]
 .let(G,ds,d,sm,r,hn,ef,O):=h;have h1:=Y _ A outer s H hr;refine#[_,h1,?_];let(o,e1,z):=aA.mp<|hf ds d hn ef;have er:=Pd (N:=N) (H:=H) r;refine#[G,H,G,_,o,#[er,#[sm,zO.refl _,zO.refl _,λb o e n=>by rw[e]at n;cases n],λi u a h1 h2 h3=>?_],e1,?_]
  .exfalso;by_cases hi:i<ds.length
   .rw[NA ‹hi›,MA]at h1
    cases q:ds[i]? with
    |none=>rw[q]at h1;cases h1
    |some d=>rw[q]at h1;cases h1;cases h2
   .rw[eB ‹hi›,DB]at h1;split at h1<;>cases h1;cases h2
  .cases o with
   |rt d'=>
    cases z
    showλv G' H' b r'=>O v G' H' #[b.gg,b.hh,b.gh,b.fr] r'
   |nx ρ=>
    cases z
    showλZC G' H' AC=>O _ G' H' #[AC.bs.gg,AC.bs.hh,AC.bs.gh,AC.bs.fr]<|FP.mpr rfl
   |bk ρ=>cases z
   |ct ρ=>cases z
   |ro ρ=>cases z
   |rm d ρ=>cases z
end RD
namespace RD
open PySem PySem.Spec PyProof.Rows L2 SeqAt
mutual
def GD:D->D->Bool
 |.non,.non=>true
 |.bl a,.bl b=>a==b
 |.bl a,.int i=>(if a then 1 else 0)==i
 |.int i,.bl a=>i==(if a then 1 else 0)
 |.int i,.int j=>i==j
 |.str x,.str y=>x==y
 |.tup xs,.tup ys=>dG xs ys
 |.lst xs,.lst ys=>dG xs ys
 |_,_=>false
def dG:L D->L D->Bool
 | [],[]=>true
 |x::xs,y::ys=>GD x y&&dG xs ys
 |_,_=>false
end
mutual
def LF:D->Nat
 |.tup xs=>GH xs+1
 |.lst xs=>GH xs+1
 |_=>0
def GH:L D->Nat
 | []=>0
 |x::xs=>max (LF x)<|GH xs
end
mutual
theorem O6:∀d:D,GD d d=true
 |.non=>by simp[GD]
 |.bl _=>by simp[GD]
 |.int _=>by simp[GD]
 |.str _=>by simp[GD]
 |.tup xs=>by dsimp[GD];show IJ xs
 |.lst xs=>by dsimp[GD];show IJ xs
theorem IJ:∀d:L D,dG d d=true
 | []=>by simp[dG]
 |x::xs=>by dsimp[dG,O6 x,IJ xs];rfl
end
theorem P6:∀{xs:L D}{i:Nat}{d:D},xs[i]?>d->LF d<=GH xs
 | [],_,_,h=>by simp at h
 |x::xs,0,d,h=>by simp at h;subst h;dsimp[GH];omega
 |x::xs,i+1,d,h=>by
  have:=P6 ‹h›;dsimp[GH];omega
noncomputable def vP(xs ys:L D)(j:Nat):Bool:=match xs[j]?,ys[j]? with
 |some x,some y=>GD x y
 |_,_=>true
theorem Qn:∀xs ys:L D,((DA<|min xs.length ys.length).all (vP xs ys)&&xs.length==ys.length)=dG xs ys
 | [],[]=>rfl
 | [],y::ys=>rfl
 |x::xs,[]=>rfl
 |x::xs,y::ys=>by
  have ih:=Qn xs ys;have e1:min (x::xs).length (y::ys).length=min xs.length ys.length+1:=by grind
  have z:((DA<|min xs.length ys.length).map Nat.succ).all (vP (x::xs) (y::ys))=(DA<|min xs.length ys.length).all (vP xs ys):=by
   rw[UG]
   congr 1
  rw[e1,YM,pX,z];have e3:vP (x::xs) (y::ys) 0=GD x y:=by simp[vP]
  have J:((x::xs).length==(y::ys).length)=(xs.length==ys.length):=by simp_all
  rw[e3,J,Bool.and_assoc,ih];rfl
def zPY(xs ys:L D)(h:xs.length=ys.length):(DA xs.length).all (vP xs ys)=dG xs ys:=by
 rw[<- Qn xs ys,h,Nat.min_self];simp
theorem zMg:∀xs ys:L D,xs.length≠ys.length->dG xs ys=false
 | [],[],h=>absurd rfl h
 | [],y::ys,h=>by simp[dG]
 |x::xs,[],h=>by simp[dG]
 |x::xs,y::ys,h=>by
  dsimp[dG,zMg xs ys (λz=>h<|by simp[z]),QU]
section
variable {X:Cx}{pins:IE}{σ:L2.St}{G H:Hp}{s:F2}
def zJu(I:Inv X pins σ H s)(h1:HI X.K H a xs)(h2:vF X.K H a ys):False:=by
 let(_,_,(o,e,hc,_),_):=I.tuple h1;let(_,_,(o',J,e',z,_),_):=I.list h2
 grind
mutual
theorem Rep.inj(I:Inv X pins σ H s)(sm:zO G H):∀(d d':D)(v:V),Rep X.K G d v->Rep X.K G d' v->d=d'
 |.non,d',v,h,h'=>by
  have e:=FP.mp h;subst e
  cases d'<;>simp_all [Rep]
 |.bl b,d',v,h,h'=>by
  have e:=zb.mp h;subst e
  cases d'<;>simp_all [Rep]
 |.int b,d',v,h,h'=>by
  have e:=zV.mp h;subst e
  cases d'<;>simp_all [Rep]
 |.str b,d',v,h,h'=>by
  have e:=qC.mp h;subst e
  cases d'<;>simp_all [Rep]
 |.tup ds,d',v,h,h'=>by
  let(a,vs,rfl,q,r):=uU h
  cases d' with
  |tup z=>
   let(O,vs',e,q',J):=uU h';cases e;have U:=I.tuple_inj (yp sm q)<|yp sm q';subst U
   rw[EA.inj I sm ds z vs r J]
  |lst z=>
   let(O,vs',e,q',J):=qD.mp h';cases e
   show(zJu I (yp sm q)<|sm.seq q').elim
  |_=>simp[Rep]at h'
 |.lst ds,d',v,h,h'=>by
  let(a,vs,rfl,q,r):=qD.mp h
  cases d' with
  |lst z=>
   let(O,vs',e,q',J):=qD.mp h';cases e;have U:=I.list_inj (sm.seq q)<|sm.seq q';subst U
   rw[EA.inj I sm ds z vs r J]
  |tup z=>
   let(O,vs',e,q',J):=uU h';cases e
   show(zJu I (yp sm q')<|sm.seq q).elim
  |_=>simp[Rep]at h'
theorem EA.inj(I:Inv X pins σ H s)(sm:zO G H):∀(d d':L D)(v:L V),EA X.K G d v->EA X.K G d' v->d=d'
 |[],d',v,h,h'=>by
  have e:=zc.mp h;subst e
  cases d' with
  |nil=>rfl
  |cons _ _=>let(_,_,e,_):=zL.mp h';cases e
 |d::ds,d',v,h,h'=>by
  let(x,r,rfl,a,b):=zL.mp h
  cases d' with
  |nil=>cases zc.mp h'
  |cons d1 z=>
   let(U,O,e,J,b'):=zL.mp h';cases e;rw[Rep.inj I sm d d1 x a J,EA.inj I sm ds z r b b']
end
def Cj{xs:L V}{us:L F3}{i:Nat}{u:F3}(r:zl xs us)(e:us[i]?>u):∃x,xs[i]?>x/\z9 x u:=by
 have hl:i<xs.length:=by rw[r.length];show(vA.mp e).1
 let(u',e1,q):=r.get (i:=i) (x:=xs[i]) (by simp[hl])
 simp_all
def zJv{xs ys:L D}{vs ws:L V}{its J:L F3}(r1:EA X.K G xs vs)(q1:zl vs its)(r2:EA X.K G ys ws)(q2:zl ws J){j:Nat}(h1:j<its.toArray.size)(h2:j<J.toArray.size):
  ∃x y v w,xs[j]?>x/\ys[j]?>y/\Rep X.K G x v/\Rep X.K G y w/\z9 v its.toArray[j]/\z9 w J.toArray[j]:=by
 let(v,e1,p1):=Cj (i:=j) (u:=its.toArray[j]) q1 (by simp_all);let(w,O,p2):=Cj (i:=j) (u:=J.toArray[j]) q2 (by simp_all);let(x,e3,p3):=r1.got e1;let(y,U,Y):=r2.got O;show#[x,y,v,w,e3,U,p3,Y,p1,p2]
def wb(A:F8):A.in1.units=A.units+1:=rfl
def Rv(I:Inv X pins σ H s)(sm:zO G H):∀(n:Nat)(A:F8)(x y:D)(v w:V)(u1 u2:F3),min (LF x) (LF y)<=n->A.units+n<K6->GG X.K G H x v->GG X.K G H y w->z9 v u1->z9 w u2 ->
  RcAt A s u1 u2 (GD x y)/\RcNeAt A s u1 u2 (!GD x y)/\(Rep X.K G x v->Rep X.K G y w->EqAt A s u1 u2 (GD x y)):=by
 intro n
 induction n using Nat.strongRecOn with|_ n ih
 .intro A x y v w u1 u2 hd hu rx ry q1 q2;have NE:A.units<K6:=01
  cases x with
  |non=>
   rw[rx.non]at q1;cases q1
   cases y with
   |non=>rw[ry.non]at q2;cases q2;show#[RcAt.none_none,RcNeAt.none_none,λ_ _=>EqAt.same _]
   |bl b=>rw[ry.bl]at q2;cases q2;show#[RcAt.none_bool b,RcNeAt.none_bool b,λ_ _=>EqAt.none_bool b]
   |int b=>rw[ry.int]at q2;let(t,rfl):=q2;show#[RcAt.none_int b t,RcNeAt.none_int b t,λ_ _=>EqAt.none_int b t]
   |str b=>rw[ry.str]at q2;let(t,rfl):=q2;show#[RcAt.none_str b t,RcNeAt.none_str b t,λ_ _=>EqAt.none_str b t]
   |tup ys=>let(a,vs,rfl,q,r):=ry.tup sm;cases q2;let(its,_,p,_):=I.tuple q;show#[RcAt.none_tuple p NE,RcNeAt.none_tuple p NE,λ_ _=>EqAt.none_tuple p NE]
   |lst ys=>let(a,vs,rfl,q,r):=ry.list sm;cases q2;let(its,_,p,_):=I.list q;show#[RcAt.none_list p.isList NE,RcNeAt.none_list p.isList NE,λ_ _=>EqAt.none_list p.isList NE]
  |bl c=>
   rw[rx.bl]at q1;cases q1
   cases y with
   |non=>rw[ry.non]at q2;cases q2;show#[RcAt.bool_none c,RcNeAt.bool_none c,λ_ _=>EqAt.bool_none c]
   |bl b=>rw[ry.bl]at q2;cases q2;show#[RcAt.bool_bool c b,RcNeAt.bool_bool c b,λ_ _=>EqAt.bool_bool c b]
   |int b=>rw[ry.int]at q2;let(t,rfl):=q2;show#[RcAt.bool_int c b t,RcNeAt.bool_int c b t,λ_ _=>EqAt.bool_int c b t]
   |str b=>rw[ry.str]at q2;let(t,rfl):=q2;show#[RcAt.bool_str c b t,RcNeAt.bool_str c b t,λ_ _=>EqAt.bool_str c b t]
   |tup ys=>let(a,vs,rfl,q,r):=ry.tup sm;cases q2;let(its,_,p,_):=I.tuple q;show#[RcAt.bool_tuple c p NE,RcNeAt.bool_tuple c p NE,λ_ _=>EqAt.bool_tuple c p NE]
   |lst ys=>let(a,vs,rfl,q,r):=ry.list sm;cases q2;let(its,_,p,_):=I.list q;show#[RcAt.bool_list c p.isList NE,RcNeAt.bool_list c p.isList NE,λ_ _=>EqAt.bool_list c p.isList NE]
  |int c=>
   rw[rx.int]at q1;let(t1,rfl):=q1
   cases y with
   |non=>rw[ry.non]at q2;cases q2;show#[RcAt.int_none c t1,RcNeAt.int_none c t1,λ_ _=>EqAt.int_none c t1]
   |bl b=>rw[ry.bl]at q2;cases q2;show#[RcAt.int_bool c t1 b,RcNeAt.int_bool c t1 b,λ_ _=>EqAt.int_bool c t1 b]
   |int b=>rw[ry.int]at q2;let(t,rfl):=q2;show#[RcAt.int_int c t1 b t,RcNeAt.int_int c t1 b t,λ_ _=>EqAt.int_int c t1 b t]
   |str b=>rw[ry.str]at q2;let(t,rfl):=q2;show#[RcAt.int_str c t1 b t,RcNeAt.int_str c t1 b t,λ_ _=>EqAt.int_str c t1 b t]
   |tup ys=>let(a,vs,rfl,q,r):=ry.tup sm;cases q2;let(its,_,p,_):=I.tuple q;show#[RcAt.int_tuple c t1 p NE,RcNeAt.int_tuple c t1 p NE,λ_ _=>EqAt.int_tuple c t1 p NE]
   |lst ys=>let(a,vs,rfl,q,r):=ry.list sm;cases q2;let(its,_,p,_):=I.list q;show#[RcAt.int_list c t1 p.isList NE,RcNeAt.int_list c t1 p.isList NE,λ_ _=>EqAt.int_list c t1 p.isList NE]
  |str c=>
   rw[rx.str]at q1;let(t1,rfl):=q1
   cases y with
   |non=>rw[ry.non]at q2;cases q2;show#[RcAt.str_none c t1,RcNeAt.str_none c t1,λ_ _=>EqAt.str_none c t1]
   |bl b=>rw[ry.bl]at q2;cases q2;show#[RcAt.str_bool c t1 b,RcNeAt.str_bool c t1 b,λ_ _=>EqAt.str_bool c t1 b]
   |int b=>rw[ry.int]at q2;let(t,rfl):=q2;show#[RcAt.str_int c t1 b t,RcNeAt.str_int c t1 b t,λ_ _=>EqAt.str_int c t1 b t]
   |str b=>rw[ry.str]at q2;let(t,rfl):=q2;show#[RcAt.str_str c t1 b t,RcNeAt.str_str c t1 b t,λ_ _=>EqAt.str_str c t1 b t]
   |tup ys=>let(a,vs,rfl,q,r):=ry.tup sm;cases q2;let(its,_,p,_):=I.tuple q;show#[RcAt.str_tuple c t1 p NE,RcNeAt.str_tuple c t1 p NE,λ_ _=>EqAt.str_tuple c t1 p NE]
   |lst ys=>let(a,vs,rfl,q,r):=ry.list sm;cases q2;let(its,_,p,_):=I.list q;show#[RcAt.str_list c t1 p.isList NE,RcNeAt.str_list c t1 p.isList NE,λ_ _=>EqAt.str_list c t1 p.isList NE]
  |tup xs=>
   let(a1,jL,rfl,Kk,M3):=rx.tup sm;cases q1;let(NJ,U5,p1,_):=I.tuple Kk
   cases y with
   |non=>rw[ry.non]at q2;cases q2;show#[RcAt.tuple_none p1 NE,RcNeAt.tuple_none p1 NE,λ_ _=>EqAt.tuple_none p1 NE]
   |bl b=>rw[ry.bl]at q2;cases q2;show#[RcAt.tuple_bool b p1 NE,RcNeAt.tuple_bool b p1 NE,λ_ _=>EqAt.tuple_bool b p1 NE]
   |int b=>rw[ry.int]at q2;let(t,rfl):=q2;show#[RcAt.tuple_int b t p1 NE,RcNeAt.tuple_int b t p1 NE,λ_ _=>EqAt.tuple_int b t p1 NE]
   |str b=>rw[ry.str]at q2;let(t,rfl):=q2;show#[RcAt.tuple_str b t p1 NE,RcNeAt.tuple_str b t p1 NE,λ_ _=>EqAt.tuple_str b t p1 NE]
   |lst ys=>let(a,vs,rfl,q,r):=ry.list sm;cases q2;let(its,_,p,_):=I.list q;show#[RcAt.tuple_list p1 p.isList NE,RcNeAt.tuple_list p1 p.isList NE,λ_ _=>EqAt.tuple_list p1 p.isList NE]
   |tup ys=>
     (dsimp[LF]at hd;let(a2,sR,rfl,Kl,O3):=ry.tup sm;cases q2;let(HF,ES,p2,_):=I.tuple Kl
      have he:∀j (h1:j<NJ.toArray.size) (h2:j<HF.toArray.size),EqAt A.in1 s NJ.toArray[j] HF.toArray[j] (vP xs ys j):=λj h1 h2=>by
       let(x,y,v,w,e1,e2,r1,r2,z1,z2):=zJv M3 U5 O3 ES h1 h2;have d1:=P6 e1;have d2:=P6 e2;have:=(ih (n-1) 01 A.in1 x y v w _ _ 01 (by rw[wb];omega) (.fr r1) (.fr r2) z1 z2).2.2 r1 r2;simpa only[vP,e1,e2] using this
      have el:((DA<|min NJ.toArray.size HF.toArray.size).all (vP xs ys)&&NJ.toArray.size==HF.toArray.size)=GD (.tup xs) (.tup ys):=by
       have l1:=M3.length;have l2:=O3.length;have l3:=U5.length;have l4:=ES.length;rw[IA,IA,<- l3,<- l4,<- l1,<- l2];dsimp[GD];show Qn xs ys
      have e1:RcAt A s (.ref a1) (.ref a2) (GD (.tup xs)<|.tup ys):=by rw[<- el];show RcAt.tuples p1 p2 NE he
      have e2:RcNeAt A s (.ref a1) (.ref a2) (!GD (.tup xs) (.tup ys)):=by rw[<- el];show RcNeAt.tuples p1 p2 NE he
      refine#[e1,e2,λh1 h2=>?_];by_cases z:a1=a2
      .subst z;have:=Rep.inj I sm _ _ _ h1 h2;rw[<- this,O6];show EqAt.same _
      .show EqAt.of_refs z e1)
  |lst xs=>
   let(a1,jL,rfl,Kk,M3):=rx.list sm;cases q1;let(NJ,U5,p1,_):=I.list Kk
   cases y with
   |non=>rw[ry.non]at q2;cases q2;show#[RcAt.list_none p1.isList NE,RcNeAt.list_none p1.isList NE,λ_ _=>EqAt.list_none p1.isList NE]
   |bl b=>rw[ry.bl]at q2;cases q2;show#[RcAt.list_bool b p1.isList NE,RcNeAt.list_bool b p1.isList NE,λ_ _=>EqAt.list_bool b p1.isList NE]
   |int b=>rw[ry.int]at q2;let(t,rfl):=q2;show#[RcAt.list_int b t p1.isList NE,RcNeAt.list_int b t p1.isList NE,λ_ _=>EqAt.list_int b t p1.isList NE]
   |str b=>rw[ry.str]at q2;let(t,rfl):=q2;show#[RcAt.list_str b t p1.isList NE,RcNeAt.list_str b t p1.isList NE,λ_ _=>EqAt.list_str b t p1.isList NE]
   |tup ys=>let(a,vs,rfl,q,r):=ry.tup sm;cases q2;let(its,_,p,_):=I.tuple q;show#[RcAt.list_tuple p1.isList p NE,RcNeAt.list_tuple p1.isList p NE,λ_ _=>EqAt.list_tuple p1.isList p NE]
   |lst ys=>
     (dsimp[LF]at hd;let(a2,sR,rfl,Kl,O3):=ry.list sm;cases q2;let(HF,ES,p2,_):=I.list Kl
      have l1:=M3.length;have l2:=O3.length;have l3:=U5.length;have l4:=ES.length
      have he:∀j (h1:j<NJ.toArray.size) (h2:j<HF.toArray.size),EqAt A.in1 s NJ.toArray[j] HF.toArray[j] (vP xs ys j):=λj h1 h2=>by
       let(x,y,v,w,e1,e2,r1,r2,z1,z2):=zJv M3 U5 O3 ES h1 h2;have d1:=P6 e1;have d2:=P6 e2;have:=(ih (n-1) 01 A.in1 x y v w _ _ 01 (by rw[wb];omega) (.fr r1) (.fr r2) z1 z2).2.2 r1 r2;simpa only[vP,e1,e2] using this
      have Gy:RcAt A s (.ref a1) (.ref a2) (GD (.lst xs)<|.lst ys)/\RcNeAt A s (.ref a1) (.ref a2) (!GD (.lst xs) (.lst ys)):=by
       by_cases hz:NJ.length=HF.length
       .have hsz:NJ.toArray.size=HF.toArray.size:=by rw[IA,IA];show hz
        have el:(DA NJ.toArray.size).all (vP xs ys)=GD (.lst xs) (.lst ys):=by
         rw[IA,<- l3,<- l1];dsimp[GD];show zPY xs ys 01
        rw[<- el];show#[RcAt.lists p1.isList p2.isList hsz NE he,RcNeAt.lists p1.isList p2.isList hsz NE he]
       .have hsz:(NJ.toArray.size != HF.toArray.size)=true:=by rw[IA,IA];simpa using hz
        have el:GD (.lst xs) (.lst ys)=false:=by dsimp[GD];show zMg xs ys 01
        rw[el];show#[RcAt.lists_lengths p1.isList p2.isList hsz NE,RcNeAt.lists_lengths p1.isList p2.isList hsz NE]
      refine#[Gy.1,Gy.2,λh1 h2=>?_];by_cases z:a1=a2
      .subst z;have:=Rep.inj I sm _ _ _ h1 h2;rw[<- this,O6];show EqAt.same _
      .show EqAt.of_refs z Gy.1)
end
noncomputable def wB(x y:D):Op D:=if min (LF x) (LF y)<=20 then some (.bl<|GD x y) else none
noncomputable def NF(x y:D):Op D:=if min (LF x) (LF y)<=20 then some (.bl<|!GD x y) else none
section
variable {X:Cx}
def zW1(U:X.A.units+30<K6):UH X (N1 .Eq) (rD X.K wB):=by
 intro pins s σ H x y v u Q I J O ⟨G,dx,z,d,sm,r1,r2,e,k⟩;unfold wB at e;split at e
 .rename_i hd;cases e;show(Rv I sm 20 _ dx z x y v u hd 01 r1 r2 J O).1 _ _ _ _ (HP I (k _ G H (zM.refl sm)<|zb.mpr rfl) rfl)
 .cases e
def zW2(U:X.A.units+30<K6):UH X (N1 .NotEq) (rD X.K NF):=by
 intro pins s σ H x y v u Q I J O ⟨G,dx,z,d,sm,r1,r2,e,k⟩;unfold NF at e;split at e
 .rename_i hd;cases e;show(Rv I sm 20 _ dx z x y v u hd 01 r1 r2 J O).2.1 _ _ _ _ (HP I (k _ G H (zM.refl sm)<|zb.mpr rfl) rfl)
 .cases e
open Classical in
def p8(ds:L D)(us:L F3)(dx:D)(u:F3):=(decide (∃(i:Nat)(d:D),us[i]?>u/\ds[i]?>d/\GD d dx=true):Bool)
open Classical in
def Dn{pins:IE}(I:Inv X pins σ H s)(sm:zO G H){ds:L D}{vs:L V}{us:L F3}(r:EA X.K G ds vs)(q:zl vs us)(dx:D){i:Nat}{u:F3}(h:us[i]?>u)(hd:ds[i]?>d):p8 ds us dx u=GD d dx:=by
 unfold p8
 cases e:GD d dx with
 |true=>show decide_eq_true #[i,d,h,hd,e]
 |false=>
  refine decide_eq_false ?_;rintro⟨j,d',h',O,e'⟩;let(v1,e1,r1):=r.get hd;let(v2,J,r2):=r.get O;let(Y,e3,q1):=q.get e1;let(u2,z,U):=q.get J;rw[h]at e3;cases e3;rw[h']at z;cases z;have:=q1.inj U;subst this;have:=Rep.inj I sm _ _ _ r1 r2;subst this;rw[e]at e';cases e'
def Ck{pins:IE}(I:Inv X pins σ H s)(sm:zO G H){ds:L D}{vs:L V}{us:L F3}(r:EA X.K G ds vs)(q:zl vs us)(dx:D):us.toArray.any (p8 ds us dx)=ds.any λd=>GD d dx:=by
 rw[ZG];simp;constructor
 .rintro⟨u,J,h⟩;let(i,hi,rfl):=jE.mp J;let(v,e1,p1):=Cj (i:=i) (u:=us[i]) q (by simp[hi]);let(d,z,p2):=r.got e1;rw[Dn I sm r q dx (by simp[hi]) z]at h;show#[d,xA z,h]
 .rintro⟨d,hd,h⟩;let(i,hi,rfl):=jE.mp hd;let(v,e1,p1):=r.get (i:=i) (d:=ds[i]) (by simp[hi]);let(u,z,p2):=q.get e1;refine#[u,xA z,?_];rw[Dn I sm r q dx (d:=ds[i]) z<|by simp[hi]];show h
noncomputable def JI(x y:D):Op D:=if LF x<=20 then match y with
  |.tup ys=>some (.bl<|ys.any λd=>GD d x)
  |.lst ys=>some (.bl<|ys.any λd=>GD d x)
  |_=>none
 else none
noncomputable def EK(x y:D):Op D:=if LF x<=20 then match y with
  |.tup ys=>some (.bl<|!ys.any λd=>GD d x)
  |.lst ys=>some (.bl<|!ys.any λd=>GD d x)
  |_=>none
 else none
def Km(K:Fg)(op:D->D->Op D):=(λx y H Q=>∃G dx dy d,zO G H/\Rep K G dx x/\GG K G H dy y/\op dx dy>d/\∀v G' H',zM G H G' H'->Rep K G' d v->Q v H':R2)
def Q6{pins:IE}(I:Inv X pins σ H s)(sm:zO G H)(Y:X.A.units+30<K6){ds:L D}{vs:L V}{us:L F3}(r:EA X.K G ds vs)(q:zl vs us){u:F3}(J:Rep X.K G dx x)(U:z9 x u)(hd:LF dx<=20):∀y,y∈us.toArray->EqAt X.A.in1 s y u (p8 ds us dx y):=λy hy=>by
 let(i,hi,rfl):=jE.mp ‹hy›;let(v,e1,p1):=Cj (i:=i) (u:=us[i]) q (by simp[hi]);let(d,O,p2):=r.got e1;rw[Dn I sm r q dx (by simp[hi]) O];show(Rv I sm 20 _ d dx v x _ u 01 (by grind) (.fr p2) (.fr J) p1 U).2.2 p2 J
def zRp(J:X.A.units+30<K6):UH X (N1 .In) (Km X.K JI):=by
 intro pins s σ H x y v u Q I O U ⟨G,dx,Y,d,sm,r1,r2,e,k⟩;unfold JI at e;split at e
 .rename_i hd
  cases Y with
  |tup ys=>
   cases e;let(a,vs,rfl,q,r):=r2.tup sm;cases U;let(its,z,p,_):=I.tuple q;refine in_tupleAt _ p (Q6 I sm J r z r1 O hd) ?_;rw[Ck I sm r z]
   show(HP I (k _ G H (zM.refl sm)<|zb.mpr rfl) rfl)
  |lst ys=>
   cases e;let(a,vs,rfl,q,r):=r2.list sm;cases U;let(its,z,p,_):=I.list q;refine in_listAt _ p.isList (Q6 I sm J r z r1 O hd) ?_;rw[Ck I sm r z]
   show(HP I (k _ G H (zM.refl sm)<|zb.mpr rfl) rfl)
  |_=>cases e
 .cases e
def zTG(J:X.A.units+30<K6):UH X (N1 .NotIn) (Km X.K EK):=by
 intro pins s σ H x y v u Q I O U ⟨G,dx,Y,d,sm,r1,r2,e,k⟩;unfold EK at e;split at e
 .rename_i hd
  cases Y with
  |tup ys=>
   cases e;let(a,vs,rfl,q,r):=r2.tup sm;cases U;let(its,z,p,_):=I.tuple q;refine notIn_tupleAt _ p (Q6 I sm J r z r1 O hd) ?_;rw[Ck I sm r z]
   show(HP I (k _ G H (zM.refl sm)<|zb.mpr rfl) rfl)
  |lst ys=>
   cases e;let(a,vs,rfl,q,r):=r2.list sm;cases U;let(its,z,p,_):=I.list q;refine notIn_listAt _ p.isList (Q6 I sm J r z r1 O hd) ?_;rw[Ck I sm r z]
   show(HP I (k _ G H (zM.refl sm)<|zb.mpr rfl) rfl)
  |_=>cases e
 .cases e
variable {a b:Expr}{f g:TB}{pos:Pos}
def Rw{K:Fg}{op:D->D->Op D}{σ:L2.St}{H:Hp}{Q:VK}(h:tE K (b2 f g op) σ H Q):pW (Km K op) (tE K f) (tR K g) σ H Q:=by
 let(G,ρ,d,s,er,z,k):=h;let(x,e1,z):=aA.mp z;let(y,U,z):=aA.mp z;refine#[G,ρ,x,s,er,e1,λY J H1 t1 r1=>#[J,ρ,y,t1.s,er.step t1,U,λv2 O H2 t2 r2=>?_]];show#[O,x,y,d,t2.s,Rep.mono t2.g _ _ r1,r2,z,λv G' H' t r=>k v G' H' ((t1.trans t2).trans t) r]
def A4(z:X.A.units+30<K6)(ha:SE X a f)(hb:SR X b g)(hm:QB .In b=false):SE X (.Compare a [.In] [b] pos) (b2 f g JI):=lF (zMH (zRp z) ha hb hm) λ_ _ _ h=>Rw h
def v4(O:X.A.units+30<K6)(ha:SE X a f)(hb:SR X b g)(hm:QB .In b=false):SB X (.Compare a [.In] [b] pos) (bB<|b2 f g JI):=
 EU (Dl (zRp O) ha hb hm) λσ H Q=>by
  rintro⟨G,ρ,d,s,er,J,k⟩;let(x,e1,z):=aA.mp J;have e3:=bY z;subst e3;show Rw #[G,ρ,_,s,er,e1,λv G' H' t r=>#[d,zb.mp r,k G' H' t]]
def zW4(O:X.A.units+30<K6)(ha:SE X a f)(hb:SR X b g)(hm:QB .NotIn b=false):SB X (.Compare a [.NotIn] [b] pos) (bB<|b2 f g EK):=
 EU (Dl (zTG O) ha hb hm) λσ H Q=>by
  rintro⟨G,ρ,d,s,er,J,k⟩;let(x,e1,z):=aA.mp J;have e3:=bY z;subst e3;show Rw #[G,ρ,_,s,er,e1,λv G' H' t r=>#[d,zb.mp r,k G' H' t]]
noncomputable def V9:D->D->Op D
 |.int i,.int j=>some<|.bl<|decide<|i<j
 |.str i,.str j=>some<|.bl<|decide<|i.cps.toList<j.cps.toList
 |_,_=>none
noncomputable def fR:D->D->Op D
 |.int i,.int j=>some<|.bl<|decide<|j<i
 |_,_=>none
def zW5:UH X (N1 .Lt) (rD X.K V9):=by
 intro pins s σ H x y v u Q I z J ⟨G,dx,O,d,sm,r1,r2,e,k⟩
 cases dx with
 |int i=>cases O with
  |int j=>cases e;rw[r1.int]at z;rw[r2.int]at J;let(t,rfl):=z;let(t',rfl):=J;show lt_int<|HP I (k _ G H (zM.refl sm)<|zb.mpr rfl) rfl
  |_=>cases e
 |str i=>cases O with
  |str j=>cases e;rw[r1.str]at z;rw[r2.str]at J;let(t,rfl):=z;let(t',rfl):=J;show lt_str<|HP I (k _ G H (zM.refl sm)<|zb.mpr rfl) rfl
  |_=>cases e
 |_=>cases e
def zW6:UH X (N1 .Gt) (rD X.K fR):=by
 intro pins s σ H x y v u Q I z J ⟨G,dx,O,d,sm,r1,r2,e,k⟩
 cases dx with
 |int i=>cases O with
  |int j=>cases e;rw[r1.int]at z;rw[r2.int]at J;let(t,rfl):=z;let(t',rfl):=J;show gt_int<|HP I (k _ G H (zM.refl sm)<|zb.mpr rfl) rfl
  |_=>cases e
 |_=>cases e
noncomputable def Wv(x y:D):Op D:=match y with
 |.non=>some (.bl (match x with | .non=>true|_=>false))
 |.bl b=>some (.bl (match x with | .bl c=>c==b|_=>false))
 |_=>none
noncomputable def M1(x y:D):Op D:=match y with
 |.non=>some (.bl (match x with | .non=>false|_=>true))
 |.bl b=>some (.bl (match x with | .bl c=>!(c==b)|_=>true))
 |_=>none
def zW7:UH X (N1 .Is) (rD X.K Wv):=by
 intro pins s σ H x y v u Q I z J ⟨G,dx,U,d,sm,r1,r2,e,k⟩;have fin:∀{c O:Bool},d=.bl c->c=O->EP X _ σ Q (.bool O) s:=λ{c O} e1 Y=>by subst Y;subst e1;show(HP I (k _ G H (zM.refl sm)<|zb.mpr rfl) rfl)
 cases U with
 |non=>
  rw[r2.non]at J;cases J;refine is_none_gen ?_
  cases dx with
  |non=>rw[r1.non]at z;cases z;cases e;show fin rfl rfl
  |bl _=>rw[r1.bl]at z;cases z;cases e;show fin rfl rfl
  |int _=>rw[r1.int]at z;let(t,rfl):=z;cases e;show fin rfl rfl
  |str _=>rw[r1.str]at z;let(t,rfl):=z;cases e;show fin rfl rfl
  |tup _=>let(a,vs,rfl,_):=r1.tup sm;cases z;cases e;show fin rfl rfl
  |lst _=>let(a,vs,rfl,_):=r1.list sm;cases z;cases e;show fin rfl rfl
 |bl b=>
  rw[r2.bl]at J;cases J
  cases dx with
  |non=>rw[r1.non]at z;cases z;cases e;show uF rfl<|fin rfl rfl
  |bl c=>rw[r1.bl]at z;cases z;cases e;show uF rfl (fin rfl (by cases b<;>cases c<;>rfl))
  |int _=>rw[r1.int]at z;let(t,rfl):=z;cases e;show uF rfl<|fin rfl rfl
  |str _=>rw[r1.str]at z;let(t,rfl):=z;cases e;show uF rfl<|fin rfl rfl
  |tup _=>let(a,vs,rfl,_):=r1.tup sm;cases z;cases e;show uF rfl<|fin rfl rfl
  |lst _=>let(a,vs,rfl,_):=r1.list sm;cases z;cases e;show uF rfl<|fin rfl rfl
 |_=>cases e
def zTH:UH X (N1 .IsNot) (rD X.K M1):=by
 intro pins s σ H x y v u Q I z J ⟨G,dx,U,d,sm,r1,r2,e,k⟩;have fin:∀{c O:Bool},d=.bl c->c=O->EP X _ σ Q (.bool O) s:=λ{c O} e1 Y=>by subst Y;subst e1;show(HP I (k _ G H (zM.refl sm)<|zb.mpr rfl) rfl)
 cases U with
 |non=>
  rw[r2.non]at J;cases J;refine isnot_none_gen ?_
  cases dx with
  |non=>rw[r1.non]at z;cases z;cases e;show fin rfl rfl
  |bl _=>rw[r1.bl]at z;cases z;cases e;show fin rfl rfl
  |int _=>rw[r1.int]at z;let(t,rfl):=z;cases e;show fin rfl rfl
  |str _=>rw[r1.str]at z;let(t,rfl):=z;cases e;show fin rfl rfl
  |tup _=>let(a,vs,rfl,_):=r1.tup sm;cases z;cases e;show fin rfl rfl
  |lst _=>let(a,vs,rfl,_):=r1.list sm;cases z;cases e;show fin rfl rfl
 |bl b=>
  rw[r2.bl]at J;cases J
  cases dx with
  |non=>rw[r1.non]at z;cases z;cases e;show rE rfl<|fin rfl rfl
  |bl c=>rw[r1.bl]at z;cases z;cases e;show rE rfl (fin rfl (by cases b<;>cases c<;>rfl))
  |int _=>rw[r1.int]at z;let(t,rfl):=z;cases e;show rE rfl<|fin rfl rfl
  |str _=>rw[r1.str]at z;let(t,rfl):=z;cases e;show rE rfl<|fin rfl rfl
  |tup _=>let(a,vs,rfl,_):=r1.tup sm;cases z;cases e;show rE rfl<|fin rfl rfl
  |lst _=>let(a,vs,rfl,_):=r1.list sm;cases z;cases e;show rE rfl<|fin rfl rfl
 |_=>cases e
end
end RD
namespace RD
open PySem PySem.Spec PyProof.Rows L2 SeqAt
section
variable {X:Cx}{a b:Expr}{f g:TB}{fl:FD}{pos:Pos}
def QW{n:Nat}(h:n<=1000000):n<=sizeLine:=JA h 02
noncomputable def yd:D->D->Op D
 |.int i,.int j=>some<|.int<|i+j
 |.str i,.str j=>if i.length+j.length<=1000000 then some (.str<|i++j) else none
 |.tup xs,.tup ys=>if xs.length+ys.length<=1000000 then some (.tup<|xs++ys) else none
 |_,_=>none
noncomputable def pO:D->D->Op D
 |.int i,.int j=>some<|.int<|i-j
 |_,_=>none
noncomputable def RS:D->D->Op D
 |.int i,.int j=>if (-(2 ^ 64)<i/\i<2 ^ 64)\/(-(2 ^ 64)<j/\j<2 ^ 64) then some (.int<|i*j) else none
 |_,_=>none
noncomputable def QJ:D->D->Op D
 |.int i,.int j=>if 0<j then some (.int<|i%j) else none
 |_,_=>none
noncomputable def Sz:D->D->Op D
 |.int i,.int j=>if 0<j/\j<1073741824 then some (.int<|i/j) else none
 |_,_=>none
def zTI{prog:F6}{w:F9}{A:F8}{E:jD}{s:F2}{t b:Addr}{ws:L F3}{Q:jD}(Y:bQ s.heap t ([]:L F3).toArray)(hb:bQ s.heap b ws.toArray)(h1:Q (.ref b) s):
  F5 (F4 prog w) A (N8 .Add (.ref t)<|.ref b) Q E s:=by
 let((cls,dd,data,sl),U,hc,n,hd):=id Y;let((vZ,Vk,data2,Xk),O,J,n2,z):=id hb;simp at hc hd J z;subst hc hd J z
 show WK #[_,U,rfl] #[_,O,rfl] WL rP uG lG (YF _ _)
   (tuple_addW0 t b _ _ n n2 dd _ sl _ rfl) #[U,O,h1]
def zTJ:UH X (N8 .Add) (rD X.K yd):=by
 intro pins s σ H x y v u Q I J O ⟨G,dx,U,d,sm,r1,r2,e,k⟩
 cases dx with
 |int i=>cases U with
  |int j=>cases e;rw[r1.int]at J;rw[r2.int]at O;let(t,rfl):=J;let(t',rfl):=O;show add_int #[.int<|i+j,H,I.tok _,#[_,rfl],k _ G H (zM.refl sm)<|zV.mpr rfl]
  |_=>cases e
 |str i=>cases U with
  |str j=>
   dsimp[yd]at e;split at e
   .rename_i hz;cases e;rw[r1.str]at J;rw[r2.str]at O;show zK8 pins s σ H _ _ v u Q I J O #[i,j,rfl,rfl,QW hz,k _ G H (zM.refl sm)<|qC.mpr rfl]
   .cases e
  |_=>cases e
 |tup xs=>cases U with
  |tup ys=>
   dsimp[yd]at e;split at e
   .rename_i hz;cases e;let(a1,Y,rfl,q1,w1):=r1.tup sm;let(a2,sR,rfl,q2,w2):=r2.tup sm;have l1:=w1.length;have l2:=w2.length
    cases Y with
    |nil=>
     cases J;cases O;let(its,vv,p1,_):=I.tuple q1;let(HF,ES,p2,_):=I.tuple q2;cases vv;have hx:xs=[]:=aD.mp l1;subst hx;refine zTI p1 p2 #[.ref a2,H,I,rfl,k _ G H (zM.refl sm) ?_]
     simpa using r2.rep (λ_ z=>by cases z)
    |cons v1 Y=>
     refine zSs pins s σ H _ _ v u Q I J O #[a1,a2,_,sR,rfl,rfl,q1,q2,by simp,QW<|01,λz=>?_,λ_ p hp=>?_]
     .subst z;have hy:ys=[]:=aD.mp l2;subst hy;refine k _ G H (zM.refl sm) ?_;simpa using r1.rep (λ_ z=>by cases z)
     .show k _ _ _ (zM.new sm hp)<|qm.mpr #[p,_,rfl,HA,EA.mono (yB<|sm.free hp) _ _<|w1.append w2]
   .cases e
  |_=>cases e
 |_=>cases e
def zTK:UH X (N8 .Sub) (rD X.K pO):=by
 intro pins s σ H x y v u Q I J O ⟨G,dx,z,d,sm,r1,r2,e,k⟩
 cases dx with
 |int i=>cases z with
  |int j=>cases e;show zWD _ s σ H x y v u Q I J O #[i,j,r1.int,r2.int,k _ G H (zM.refl sm)<|zV.mpr rfl]
  |_=>cases e
 |_=>cases e
def zTL:UH X (N8 .Mult) (rD X.K RS):=by
 intro pins s σ H x y v u Q I J O ⟨G,dx,z,d,sm,r1,r2,e,k⟩
 cases dx with
 |int i=>cases z with
  |int j=>
   dsimp[RS]at e;split at e
   .rename_i hz;cases e;show zWE _ s σ H x y v u Q I J O #[i,j,r1.int,r2.int,hz,k _ G H (zM.refl sm)<|zV.mpr rfl]
   .cases e
  |_=>cases e
 |_=>cases e
def zTM:UH X (N8 .Mod) (rD X.K QJ):=by
 intro pins s σ H x y v u Q I J O ⟨G,dx,z,d,sm,r1,r2,e,k⟩
 cases dx with
 |int i=>cases z with
  |int j=>
   dsimp[QJ]at e;split at e
   .rename_i hz;cases e;show zWF _ s σ H x y v u Q I J O #[i,j,r1.int,r2.int,hz,k _ G H (zM.refl sm)<|zV.mpr rfl]
   .cases e
  |_=>cases e
 |_=>cases e
def zPa:UH X (N8 .FloorDiv) (rD X.K Sz):=by
 intro pins s σ H x y v u Q I J O ⟨G,dx,z,d,sm,r1,r2,e,k⟩
 cases dx with
 |int i=>cases z with
  |int j=>
   dsimp[Sz]at e;split at e
   .rename_i hz;cases e;show zSe _ s σ H x y v u Q I J O #[i,j,r1.int,r2.int,hz,k _ G H (zM.refl sm)<|zV.mpr rfl]
   .cases e
  |_=>cases e
 |_=>cases e
noncomputable def VW:D->Op D
 |.int i=>some<|.int (-i)
 |_=>none
def zW8(ha:SR X a f):SE X (.UnaryOp .USub a pos) (b1 f VW):=lF (W2 zWG ha) λσ H Q=>by
 rintro⟨G,ρ,d,s,er,z,k⟩;let(d1,e1,z):=aA.mp z
 cases d1 with
 |int i=>cases z;show#[G,ρ,_,s,er,e1,λO J H1 t1 r1=>#[i,r1.int,k _ J H1 t1<|zV.mpr rfl]]
 |_=>cases z
noncomputable def zR(x y:D):Op (L D):=match x,y with
 |.lst xs,.lst ys=>if xs.length+ys.length<=1000000 then some (xs++ys) else none
 |_,_=>none
noncomputable def JT(f g:TB)(op:D->D->Op (L D)):FD:=λρ=>(f ρ).bind λx=>(g ρ).bind λy=>op x y
def rF(K:Fg)(op:D->D->Op (L D)):=(λx y H Q=>∃G dx dy xs,zO G H/\GG K G H dx x/\GG K G H dy y/\op dx dy>xs/\∀a vs G' H',zM G H G' H'->H a=none->G' a=none->H' a>.lst vs->EA K G' xs vs->Q (.ref a) H':R2)
def zW9{K:Fg}{op:D->D->Op (L D)}{σ:L2.St}{H:Hp}{Q:VK}(h:tF K (JT f g op) σ H Q):pW (rF K op) (tR K f) (tR K g) σ H Q:=by
 let(G,ρ,d,s,er,z,k):=h;let(x,e1,z):=aA.mp z;let(y,U,z):=aA.mp z;refine#[G,ρ,x,s,er,e1,λY J H1 t1 r1=>#[J,ρ,y,t1.s,er.step t1,U,λv2 O H2 t2 r2=>?_]];show#[O,x,y,d,t2.s,r1.step t2,r2,z,λa vs G' H' t h1 h2 h3 r=>k a vs G' H' ((t1.trans t2).trans t) ((t1.trans t2).h.free h1) h2 h3 r]
def zTN:UH X (N8 .Add) (rF X.K zR):=by
 intro pins s σ H x y v u Q I rx ry ⟨G,dx,dy,d,sm,r1,r2,e,k⟩
 cases dx with
 |lst xs=>cases dy with
  |lst ys=>
   dsimp[zR]at e;split at e
   .cases e;let(a1,jL,rfl,q1,w1):=r1.list sm;let(a2,sR,rfl,q2,Y):=r2.list sm;have l1:=w1.length;have l2:=Y.length;cases rx;cases ry;let(its,U,(o1,n1,p1,c1,d1,e1),_):=I.list q1;let(J,z,(o2,n2,p2,c2,d2,O),_):=I.list q2;have l3:=U.length;have l4:=z.length;let(cls,dd,data,sl):=o1;let(vZ,Vk,data2,Xk):=o2;simp at c1 d1 e1 c2 d2 O;subst c1 d1 e1 c2 d2 O
    refine WK #[_,p1,rfl] #[_,p2,rfl] noFill_list_add seq_list_add PySem.F.slot_list_add PySem.F.entry_list_add (PySem.F.args_list_add_2 _ _)
     (list_addW a1 a2 _ _ n1 n2 _ _ sl _ (by rw[IA,IA];show QW<|01)) #[p1,p2,?_]
    have ea:its.toArray++J.toArray=(its++J).toArray:=by simp
    rw[ea];refine#[.ref _,_,I.lnew (U.append z) (by rw[OA];show QW<|01),rfl,?_];show k _ _ G _ (zM.newH sm I.fresh) I.fresh (sm.free I.fresh) HA<|w1.append Y
   .cases e
  |_=>cases e
 |_=>cases e
def zXA(ha:SR X a f)(hb:SR X b g):SF X (.BinOp a .Add b pos) (JT f g zR):=lF (zWC zTN ha hb) λ_ _ _ h=>zW9 h
def KA:D->D->Op D
 |.lst xs,.int i=>EF xs i
 |.tup xs,.int i=>EF xs i
 |.str z,.int i=>if z.length<=1000000 then (EF z.cps.toList i).map λc=>.str #[[c].toArray] else none
 |_,_=>none
def zMj{K:Fg}{G:Hp}{xs:L D}{vs:L V}{i:Int}{d:D}(r:EA K G xs vs)(h:EF xs i>d):∃v,EF vs i>v/\Rep K G d v:=by
 unfold EF at h|-;rw[<- r.length];let(j,e1,z):=aA.mp h;rw[e1];show r.get z
def Jp:YQ X (rD X.K KA):=by
 intro value slice pins s σ H x y v u Q I U Y ⟨G,dx,dy,d,sm,r1,r2,e,k⟩ hs
 cases dy with
 |int i=>
  have hy:=r2.int;subst hy
  cases dx with
  |lst xs=>
   let(a1,O,rfl,q1,w1):=r1.list sm;let(v',e1,J):=zMj w1 e
   show Rt _ _ _ s σ H _ _ v u Q I U Y (.inl #[a1,O,i,v',rfl,rfl,q1,e1,k _ G H (zM.refl sm) J]) hs
  |tup xs=>
   let(a1,O,rfl,q1,w1):=r1.tup sm;let(v',e1,J):=zMj w1 e
   show Rt _ _ _ s σ H _ _ v u Q I U Y (.inr<|.inl #[a1,O,i,v',rfl,rfl,q1,e1,k _ G H (zM.refl sm) J]) hs
  |str z=>
   have hx:=r1.str;subst hx;dsimp[KA]at e;split at e
   .rename_i hz;let(c,e1,rfl):=bA.mp e;show Rt _ _ _ s σ H _ _ v u Q I U Y (.inr<|.inr #[z,i,c,rfl,rfl,QW hz,e1,k _ G H (zM.refl sm)<|qC.mpr rfl]) hs
   .cases e
  |_=>cases e
 |_=>cases dx<;>cases e
def B4(ha:SR X a f)(hb:SR X b g)(hs:yo b):SE X (.Subscript a b pos) (b2 f g KA):=lF (U2 Jp ha hb hs) λ_ _ _ h=>Ey h
abbrev zQ(xs:L D)(lo hi:Op Int):L D:=(xs.drop<|HT.YE xs.length 0 lo).take<|HT.YE xs.length xs.length hi-HT.YE xs.length 0 lo
def zMk{K:Fg}{G:Hp}{xs:L D}{vs:L V}(lo hi:Op Int)(r:EA K G xs vs):EA K G (zQ xs lo hi) (CY vs lo hi):=by
 unfold zQ CY;rw[r.length];show(r.drop _).take _
def tOs(K:Fg)(f:XA->Op (Op Int)):=(λσ H Q=>∃G ρ d,zO G H/\Er K G H ρ σ/\f ρ>d/\∀G' H',zM G H G' H'->Q d H':TO)
abbrev SO(X:Cx)(e:Op Expr)(f:XA->Op (Op Int)):Prop:=PO X e<|tOs X.K f
def zXB(h:PO X e t)(w:∀σ H Q,t' σ H Q->t σ H Q):PO X e t':=λpins s σ H Q I q=>h _ s σ H Q I<|w σ H Q q
noncomputable def asI:D->Op Int
 |.int i=>some i
 |_=>none
def oI(f:TB):=(λρ=>(f ρ).bind λd=>(asI d).map some:XA->Op (Op Int))
def zTO:SO X none (λ_=>some none):=zXB zSq λσ H Q=>by rintro⟨G,ρ,d,s,er,z,k⟩;cases z;show k G H<|zM.refl s
def zTP(h:SE X a f):SO X (some a) (oI f):=zXB (zSr h) λσ H Q=>by
 rintro⟨G,ρ,d,s,er,z,k⟩;let(x,e1,z):=aA.mp z;let(i,J,rfl):=bA.mp z
 cases x with
 |int j=>cases J;show#[G,ρ,_,s,er,e1,λU O H1 t1 r1=>#[i,zV.mp r1,k O H1 t1]]
 |_=>cases J
variable {lo hi:Op Expr}{ol oh:XA->Op (Op Int)}{p2:Pos}
noncomputable def aK(x:D)(lo hi:Op Int):Op D:=match x with
 |.tup xs=>some<|.tup<|zQ xs lo hi
 |.str z=>if z.length<=1000000 then some (.str<|Txt.slice z lo hi) else none
 |_=>none
noncomputable def Kz(x:D)(lo hi:Op Int):Op (L D):=match x with
 |.lst xs=>some<|zQ xs lo hi
 |_=>none
noncomputable def GJ{α:Type}(f:TB)(ol oh:XA->Op (Op Int))(op:D->Op Int->Op Int->Op α):XA->Op α:=λρ=>(f ρ).bind λx=>(ol ρ).bind λl=>(oh ρ).bind λh=>op x l h
def zCh{E:jD}{s:F2}{t J:Addr}{items:Array F3}{O U:F3}{lo hi:Op Int}{Q:jD}(z:bQ s.heap t items)(hs:s.heap.IsSliceOf J O U .none)(pl:IsPart O lo)(pu:IsPart U hi)(hw:HT.YE items.size 0 lo=0/\HT.YE items.size items.size hi=items.size)(h:Q (.ref t) s):F5 (F4 prog w) A (br (.ref t)<|.ref J) Q E s:=by
 let(os,LJ,Y,TZ):=id hs;have Hy:s.TypeIs (.ref J) _:=#[os,LJ,Y]
 unfold br
 try with_reducible refine K3 ?_
 refine Ee (wpAny_sequenceKey z.typeIs 02 ?_)
 refine Ee (wpAny_callSpecial?_slot z.typeIs PyProof.Rows.slot_tuple_getitem
  (K1 PyProof.Rows.slot_tuple_getitem z.typeIs entry_tuple_getitem ?_<|args_tuple_getitem _ _))
 change F5 _ _ (fI _ >>= _) _ _ s;refine Ee<|tupleItemsOf_ z ?_;refine Ee<|ao Hy ?_;refine Ee<|HT.Xy hs pl pu ?_
 have Jj:((HT.YE items.size 0 lo:Int)==0&&(1:Int)==1&&(HT.YE items.size items.size hi-HT.YE items.size 0 lo)==items.size)=true:=by
  rw[hw.1,hw.2];simp
 change F5 _ _ (if ((HT.YE items.size 0 lo:Int)==0&&1==1&&(HT.YE _ _ hi-HT.YE _ 0 lo)==items.size)=true then _ else _) _ _ s;rw[if_pos Jj]
 first
  |show Ee (Ee<|ao z.typeIs<|F1<|by show Ee<|T3<|F1 #[_,rfl,F1 h])
  |show Ee _
  |show Ee _
def rSD(K:Fg):=(λx lo hi H Q=>∃G dx d,zO G H/\GG K G H dx x/\aK dx lo hi>d/\∀v G' H',zM G H G' H'->Rep K G' d v->Q v H':V->Op Int->Op Int->Hp->VK->Prop)
def part_of(p:IsPart v o):∃l:Op (Int×Tok),v=partValue l/\l.map (·.1)=o:=by
 cases p with
 |none=>show#[none,rfl,rfl]
 |int i t=>show#[some (i,t),rfl,rfl]
def La:i9 X (rSD X.K):=by
 intro pins s σ H x v vl vu lo hi sl Q I U hs pl Y ⟨G,dx,d,sm,r1,e,k⟩
 cases dx with
 |tup xs=>
  cases e;let(a1,J,rfl,q1,w1):=r1.tup sm;by_cases hw:HT.YE J.length 0 lo=0/\HT.YE J.length J.length hi=J.length
  .cases U;let(its,vv,ht,hz):=I.tuple q1;have O:its.toArray.size=J.length:=by rw[IA];show vv.length.symm
   refine#["tuple",_,PyProof.Rows.slot_tuple_getitem.lookup,ht.typeIs,zCh ht hs pl Y (by rw[O];show hw) #[.ref a1,H,I,rfl,k _ G H (zM.refl sm) ?_]]
   have e1:zQ xs lo hi=xs:=by
    unfold zQ;rw[w1.length,hw.1,hw.2,TU,Nat.sub_zero,<- w1.length,kF]
   rw[e1];show r1.rep λ_ z=>by cases z
  .show zWK pins s σ H _ v vl vu lo hi sl Q I U hs pl Y #[a1,J,rfl,q1,hw,λp hp=>k _ _ _ (zM.new sm hp)<|qm.mpr #[p,_,rfl,HA,EA.mono (yB<|sm.free hp) _ _<|zMk lo hi w1]]
 |str z=>
  dsimp[aK]at e;split at e
  .rename_i hz;cases e;rw[r1.str]at U;let(t,rfl):=U;let(l,rfl,el):=part_of pl;let(u,rfl,eu):=part_of Y;refine#["str",_,F.slot_str_getitem.lookup,typeIs_str _ _ _,wpAny_getItem_str_slice (l:=l) (u:=u) (st:=none) hs rfl ?_];subst el eu;refine post_val_or_str #[JA (Txt.slice_le z _ _)<|QW hz,λt' k'=>#[.str _,H,I.tok _,#[_,rfl],k _ G H (zM.refl sm)<|qC.mpr rfl]]
  .cases e
 |_=>cases e
def zPb(ha:SR X a f)(hl:SO X lo ol)(hh:SO X hi oh):SE X (.Subscript a (.Slice lo hi none p2) pos) (GJ f ol oh aK):=lF (zJo La ha hl hh) λσ H Q=>by
 rintro⟨G,ρ,d,s,er,z,k⟩;let(x,e1,z):=aA.mp z;let(l,Y,z):=aA.mp z;let(h,e3,z):=aA.mp z;show#[G,ρ,x,s,er,e1,λv1 J H1 t1 r1=>#[J,ρ,l,t1.s,er.step t1,Y,λO H2 t2=>#[O,ρ,h,t2.s,er.step<|t1.trans t2,e3,λU H3 t3=>#[U,x,d,t3.s,r1.step<|t2.trans t3,z,λv G' H' t r=>k v G' H' (((t1.trans t2).trans t3).trans t) r]]]]
def zPc(ha:SR X a f)(hl:SO X lo ol)(hh:SO X hi oh):SF X (.Subscript a (.Slice lo hi none p2) pos) (GJ f ol oh Kz):=lF (zJo zSu ha hl hh) λσ H Q=>by
 rintro⟨G,ρ,d,s,er,z,k⟩;let(x,e1,z):=aA.mp z;let(l,Y,z):=aA.mp z;let(h,e3,z):=aA.mp z
 cases x with
 |lst xs=>
  cases z;refine#[G,ρ,_,s,er,e1,λv1 J H1 t1 r1=>#[J,ρ,l,t1.s,er.step t1,Y,λO H2 t2=>#[O,ρ,h,t2.s,er.step<|t1.trans t2,e3,λU H3 t3=>?_]]];have tt:=(t1.trans t2).trans t3;let(a1,jL,rfl,q1,w1):=(r1.step<|t2.trans t3).list t3.s
  show#[a1,jL,rfl,q1,λp hp=>k p _ U _ (tt.trans<|zM.newH t3.s hp) (tt.h.free hp) (t3.s.free hp) HA<|zMk l h w1]
 |_=>cases z
noncomputable def pH:D->Op D
 |.tup xs=>some<|.int xs.length
 |.lst xs=>some<|.int xs.length
 |.str z=>if z.length<=1000000 then some (.int z.length) else none
 |_=>none
def zMl(_:X.calm=true):sJ X (.builtin "len") (cR X.K pH):=by
 intro pins s σ H xs us Q I r h;let(G,d1,d,x,rfl,sm,r1,e,k):=h
 cases d1 with
 |tup ys=>
  cases e;let(a,vs,rfl,q,w):=r1.tup sm;refine Zf _ s σ H _ us Q I r #[a,vs,rfl,.inr q,?_];rw[<- w.length]
  show k _ G H (zM.refl sm)<|zV.mpr rfl
 |lst ys=>
  cases e;let(a,vs,rfl,q,w):=r1.list sm;refine Zf _ s σ H _ us Q I r #[a,vs,rfl,.inl q,?_];rw[<- w.length]
  show k _ G H (zM.refl sm)<|zV.mpr rfl
 |str z=>
  dsimp[pH]at e;split at e
  .rename_i hz;cases e;have hx:=r1.str;subst hx;show zHc _ s σ H _ us Q I r #[z,rfl,QW hz,k _ G H (zM.refl sm)<|zV.mpr rfl]
  .cases e
 |_=>cases e
noncomputable def OH:D->Op D
 |.tup xs=>some<|.tup xs
 |.lst xs=>some<|.tup xs
 |_=>none
def zMm(_:X.calm=true):sJ X (.type "tuple") (cR X.K OH):=by
 intro pins s σ H xs us Q I r h;let(G,d1,d,x,rfl,sm,r1,e,k):=h
 cases d1 with
 |tup ys=>
  cases e;let(a,vs,rfl,q,w):=r1.tup sm
  show Yn _ s σ H _ us Q I r #[a,vs,rfl,.inr #[q,k _ G H (zM.refl sm)<|r1.rep λ_ z=>by cases z]]
 |lst ys=>
  cases e;let(a,vs,rfl,q,w):=r1.list sm
  show Yn _ s σ H _ us Q I r #[a,vs,rfl,.inl #[q,λp hp=>k _ _ _ (zM.new sm hp)<|qm.mpr #[p,_,rfl,HA,EA.mono (yB<|sm.free hp) _ _ w]]]
 |_=>cases e
noncomputable def US:D->Op (L D)
 |.tup xs=>some xs
 |.lst xs=>some xs
 |_=>none
def zMn(_:X.calm=true):sJ X (.type "list") (cF X.K US):=by
 intro pins s σ H xs us Q I r h;let(G,d1,ys,x,rfl,sm,r1,e,k):=h
 cases d1 with
 |tup zs=>
  cases e;let(a,vs,rfl,q,w):=r1.tup sm
  show Yo _ s σ H _ us Q I r #[a,vs,rfl,.inr q,λp hp=>k p vs G _ (zM.newH sm hp) hp (sm.free hp) HA w]
 |lst zs=>
  cases e;let(a,vs,rfl,q,w):=r1.list sm
  show Yo _ s σ H _ us Q I r #[a,vs,rfl,.inl q,λp hp=>k p vs G _ (zM.newH sm hp) hp (sm.free hp) HA w]
 |_=>cases e
noncomputable def Fu:D->Op D
 |.int i=>some<|.int i
 |.bl b=>some<|.int<|if b then 1 else 0
 |_=>none
def zMo(_:X.calm=true):sJ X (.type "int") (cR X.K Fu):=by
 intro pins s σ H xs us Q I r h;let(G,d1,d,x,rfl,sm,r1,e,k):=h
 cases d1 with
 |int i=>cases e;have hx:=r1.int;subst hx;show vj _ s σ H _ us Q I r<|.inl #[i,rfl,k _ G H (zM.refl sm)<|zV.mpr rfl]
 |bl b=>cases e;have hx:=r1.bl;subst hx;show vj _ s σ H _ us Q I r<|.inr #[b,rfl,k _ G H (zM.refl sm)<|zV.mpr rfl]
 |_=>cases e
noncomputable def LN(x:Int):L Int->L Int
 | []=>[x]
 |y::ys=>if x<=y then x::y::ys else y::LN x ys
noncomputable def EM:L Int->L Int
 | []=>[]
 |x::xs=>LN x<|EM xs
noncomputable def CN(a b:Str):Bool:=decide<|a.cps.toList<b.cps.toList
noncomputable def MN(x:Str):L Str->L Str
 | []=>[x]
 |y::ys=>if CN y x then y::MN x ys else x::y::ys
noncomputable def KL:L Str->L Str
 | []=>[]
 |x::xs=>MN x<|KL xs
noncomputable def lY:L D->Op (L Int)
 | []=>some []
 |.int i::r=>(lY r).map (i :: ·)
 |_=>none
noncomputable def LP:L D->Op (L Str)
 | []=>some []
 |.str i::r=>(LP r).map (i :: ·)
 |_=>none
noncomputable def JQ:D->Op (L D):=λd=>(US d).bind λxs=>if xs.length<64 then match lY xs with
  |some is=>some<|(EM is).map .int
  |none=>(LP xs).map λss=>(KL ss).map .str
 else none
end
end RD
namespace RD
open PySem PySem.Spec PyProof.Rows L2
noncomputable def OL(names:L (Str×T6))(cells:L (Str×Addr)):L (Str×Addr):=((names.filter λy=>y.2==.free).reverse).map λy=>(y.1,(cells.lookup y.1).getD 0)
theorem Yp{env:Env}:∀(names:L (Str×T6))(acc:L (Str×Addr)),(∀y∈names,y.2=.free->∃c,env.cells.lookup y.1>c) ->
  (forIn names acc<|λ(x:Str×T6) (cs:L (Str×Addr))=>(if x.2==.free then (do let c <- cellOf env x.1;pure (ForInStep.yield ((x.1,c)::cs))) else pure (ForInStep.yield cs):Sem (ForInStep<|L<|Str×Addr)))=pure (OL names env.cells++acc)
 | [],acc,_=>by simp[OL]
 |(n,k)::r,acc,h=>by
  have ih:=λacc=>Yp r acc λy hy=>h y<|cA _ hy
  rw[rT];by_cases hk:(k==NameKind.free)=true
  .let(c,hc):=h _ eA ‹hk›;dsimp[hk,if_true];have e1:cellOf env n=pure c:=by unfold cellOf;rw[hc]
   rw[e1];change(forIn r _ _:Sem _)=_;rw[ih];simp[OL,hk,hc]
  .dsimp[hk];change(forIn r _ _:Sem _)=_;rw[ih];simp[OL,hk]
def Ai{scope:oE}{env:Env}(h:∀y∈scope.names,y.2=.free->∃c,env.cells.lookup y.1>c):closureFor scope env=pure (OL scope.names env.cells):=by
 have:=Yp _ [] h;rw[WA]at this;have z:=this
 first
  |show(congrArg (λt=>t >>= λcs=>pure cs) z).trans rfl
  |(rfl)
def Zn{cells:L (Str×Addr)}(h:(OL names cells).lookup x>c):(x,NameKind.free)∈names/\c=(cells.lookup x).getD 0:=by
 have hm:=FC h;let(y,hy,e):=QA.mp hm
 grind
theorem Ye{F:Str->Addr}:∀(l:L (Str×T6)){x:Str},(∃k,(x,k)∈l)->(l.map λy=>(y.1,F y.1)).lookup x>F x
 | [],_,h=>by grind
 |(n,k)::r,x,h=>by
  rw[kA,kB];by_cases e:x=n
  .subst e;simp
  .have:(x==n)=false:=‹e›
   rw[this];refine Ye r ?_
   grind
def zJw{cells:L (Str×Addr)}(h:(x,NameKind.free)∈names):(OL names cells).lookup x>(cells.lookup x).getD 0:=by
 show Ye (F:=λx=>(cells.lookup x).getD 0) _ #[.free,List.mem_reverse.mpr<|cD.mpr #[h,by simp]]
noncomputable def HN(N nm:L Str)(inner outer:L (Str×T6)):Bool:=
 inner.all (λy=>y.2 != .cell&&y.1 != "" && (y.2 != .local || inner.lookup y.1==some .local)&&(y.2 != .free || outer.lookup y.1==some .cell || outer.lookup y.1==some .free)) &&
 N.all (λx=>nm.contains x || match inner.lookup x with|none=>true|some .free=>true|some .globalImplicit=>true|some .globalExplicit=>true|_=>false)
noncomputable def KI(sc:oE)(m:Nat):L Str:=(sc.names.tail.take m).map Prod.fst
noncomputable def RW(N nm:L Str):L Str:=N.map (λy=>if nm.contains y then ("" : Str) else y)++nm
noncomputable def zT(X:Cx)(nm:L Str)(scope:oE)(C:Addr)(iB:F2)(OC:Hp)(ex:L Addr):Cx:=
 { X with N:=RW X.N nm,s₀:=iB,H₀:=OC,env:=du scope (OL scope.names X.env.cells) C X.env,outer:=X.stack,ex:=ex,fn:=λ_=>false,pn:=[],xe:=λ_ _=>False }
theorem Mi{env:Env}{x:Str}{k:T6}:∀{names:L (Str×T6)},(names.map λ(n,k)=>if (k==NameKind.free&&env.scope.kind==.function&&env.kindOf n==some .cell) then (n,NameKind.cell) else (n,k)).lookup x>k ->
  ∃k',names.lookup x>k'/\(k=k'\/(k=.cell/\k'=.free))
 | [],h=>by simp at h
 |(n,k0)::r,h=>by
  have ih:=@Mi env x k r;rw[kA]at h;dsimp only at h;rw[kB];by_cases e:x=n
  .subst e;dsimp[BEq.rfl];refine#[k0,rfl,?_];by_cases hc:(k0==NameKind.free&&env.scope.kind==.function&&env.kindOf x==some .cell)=true
   .simp_all
   simp_all
  .have e':(x==n)=false:=‹e›
   rw[e'];refine ih ?_;by_cases hc:(k0==NameKind.free&&env.scope.kind==.function&&env.kindOf n==some .cell)=true
   .rw[if_pos hc,kB,e']at h;show h
   .rw[if_neg hc,kB,e']at h;show h
noncomputable def zF(g:D->XA->Op XA)(p:QE)(f:TB):L D->XA->Op (L D)
 | [],_=>some []
 |d::ds,ρ=>(g d ρ).bind λRE=>(p RE).bind λb=>if b=true then (f RE).bind λx=>(zF g p f ds ρ).map (x :: ·) else zF g p f ds ρ
noncomputable def zB(m:Nat)(fl:FD)(g:D->XA->Op XA)(p:QE)(f:TB):FD:=λρ=>(fl ρ).bind λds=>if ds.length<=1000000 then zF g p f ds (ρ++nA m .un) else none
def XR(X:Cx)(ifs:L Expr)(p:QE):=((ifs=[]/\p=λ_=>some true)\/∃c,ifs=[c]/\SB X c p:Prop)
def iK(H:Hp)(ρ:XA)(σ:L2.St)(a:Addr):=(∀(j:Nat)(u:Sl)(b:Addr),ρ[j]?>u->u.isObj=true->σ[j]?>(some<|.ref b)->a∉ED H u b:Prop)
def Er.app{K:Fg}{G H:Hp}{ρ:XA}{σ:L2.St}(e:Er K G H ρ σ)(m:Nat)(τ:L2.St)(J:τ.length=m):Er K G H (ρ++nA m .un) (σ++τ):=by
 have low:∀{i:Nat}{s:Sl},(ρ++nA m .un)[i]?>s->s=.un\/(i<ρ.length/\ρ[i]?>s):=λ{i s} h=>by
  by_cases hi:i<ρ.length
  .rw[NA hi]at h;show .inr #[hi,h]
  .rw[eB<|01,DB]at h;split at h<;>cases h;show .inl rfl
 have up:∀{i:Nat},i<ρ.length->(σ++τ)[i]?=σ[i]?:=λ{i} hi=>NA (by rw[<- e.len];show hi)
 refine#[by simp[e.len,J],λi d h=>?_,λi u h o=>?_,λi j s t a b ne h1 O h2 U q1 Y=>?_]
 .rcases low h with z|⟨hi,q⟩
  .cases z
  .rw[up hi];show e.val i d q
 .rcases low h with z|⟨hi,q⟩
  .subst z;cases o
  .rw[up hi];show e.slot i u q o
 .rcases low h1 with z|⟨hi,q⟩
  .subst z;cases O
  rcases low h2 with z|⟨hj,q'⟩
  .subst z;cases U
  rw[up hi]at q1;rw[up hj]at Y;show e.sep i j s t a b ne q O q' U q1 Y
section
variable {X:Cx}{tg iter elt:Expr}{ifs:L Expr}{scope:oE}{pos:Pos}{nm:L Str}{fl:FD}{gd:D->XA->Op XA}{p:QE}{f:TB}
def zo{inner outer:L (Str×T6)}(h:HN N nm inner outer=true){y:Str×T6}(hy:y∈inner):
  y.2≠.cell/\y.1 ≠ ""/\(y.2=.local->inner.lookup y.1>.local)/\(y.2=.free->outer.lookup y.1>.cell\/outer.lookup y.1>.free):=by
 unfold HN at h;rw[XB,GB]at h;have:=h.1 y hy;simp at this;let(((h1,h2),h3),J):=this;refine#[h1,h2,λe=>?_,λe=>?_]
 .rcases h3 with z|z
  .show absurd e z
  .show z
 .rcases J with(z|z)|z
  .show absurd e z
  .show .inl z
  .show .inr z
def zPd{N nm:L Str}{inner outer:L (Str×T6)}(h:HN N nm inner outer=true)(hx:x∈N)(hn:¬ nm.contains x=true)(hk:inner.lookup x>k):k≠.local/\k≠.cell:=by
 unfold HN at h;rw[XB,GB,GB]at h;have:=h.2 x hx;rw[bH]at this;rcases this with z|z
 .show absurd z hn
 .rw[hk]at z;cases k<;>first|show#[02,02]|show absurd z 02
def zMp{s:F2}(I:Inv X pins σ H s)(hk:scope.kind=.function)(hok:HN X.N nm scope.names X.env.scope.names=true)(J:∀b∈ex,EH X pins H b)(cJ:∀b∈ex,b<s.heap.objs.size):
  (zT X nm scope s.heap.objs.size s H ex).Ok:=by
 have nH:∀x c,(OL _ _).lookup x>c->X.env.cells.lookup x>c:=λx c e=>by
  let(h1,h2):=Zn e;have h3:=(zo hok h1).2.2.2 rfl;let(Y,O):=I.ok.has x h3;rw[O]at h2;rw[O,h2];rfl
 refine#[I.ok.mod,?_,I.ok.glob,I.ok.blt,wA _,λx y c h1 h2=>I.ok.inj x y c (nH x c h1)<|nH y c h2,λx hx=>?_,λx c z=>(by cases z),I.ok.hd,I.ok.frames,.inl rfl,λb hb=>#[?_,λx c e=>?_],I.bs,JA I.ok.bsz I.sz,λb o e hb=>?_,λb hb hf=>?_,I.stack,I.stkFree]
 .show hk
 .have:∃k,(relabel scope X.env).names.lookup x>k/\(k=.cell\/k=.free):=by
   rcases hx with z|z
   .show#[_,z,.inl rfl]
   .show#[_,z,.inr rfl]
  let(k,e,kS):=this;let(k',e1,U):=Mi e;have hm:=FC e1;have hc:=(zo hok hm).1
  have hf:k'=.free:=by
   rcases U with z|⟨_,z⟩
   .simp_all
   .show z
  subst hf;show#[_,zJw hm]
 .show GA<|cJ b hb
 .show(J b hb).2.2.2.2.1 x c (nH x c e)
 .have h1:=(J b hb).2.2.2.1;rcases h1 with z|z
  .show I.ok.noex b o e z
  .show absurd (BA (CA (I.ok.bs b o e).1) z)<|RC _
 .have h1:=I.stkSub b hf;rcases oA.mp h1 with z|z
  .show(J b hb).2.1 z
  .show(J b hb).2.2.1 z
def zMq(N nm:L Str):(RW N nm).length=N.length+nm.length:=by simp[RW]
def zLJ{s:F2}(I:Inv X pins σ H s)(hk:scope.kind=.function)(hok:HN X.N nm scope.names X.env.scope.names=true)(hex:∀b∈ex,EH X pins H b)(cJ:∀b∈ex,b<s.heap.objs.size){eG:Heap}{J:AF}{tk:Nat}(hn:eG.Ns s.heap.objs.size J)(keep:∀b o,s.heap.get? b>o->eG.get? b>o):
  Inv (zT X nm scope s.heap.objs.size s H ex) [] (σ++nA nm.length none) H { s with heap:=eG,toks:=tk }:=by
 have ok:=zMp I hk hok hex cJ
 have nH:∀x c,(OL _ _).lookup x>c->X.env.cells.lookup x>c:=λx c e=>by
  let(h1,h2):=Zn e;have h3:=(zo hok h1).2.2.2 rfl;let(c',h4):=I.ok.has x h3;rw[h4]at h2;rw[h4,h2];rfl
 refine#[ok,rfl,I.bare,Un.kept keep,#[J,hn,λi x v e1 O e3=>?_],λx c e=>?_,I.hok.fresh<|wA _,λx c e=>I.freeC x c<|nH x c e,λp hp=>(by simp[zT]at hp),I.hok.kept keep,?_]
 .have hi:i<X.N.length:=by
   by_cases hi:i<σ.length
   .rw[<- I.len];show hi
   .rw[eB<|01,DB]at O;split at O<;>cases O
  have YJ:=by
   have:(RW X.N nm)[i]?>x:=e1;unfold RW at this
   rwa [NA<|by simpa using hi]at this
  have EO:σ[i]?>some v:=by rwa [NA (by rw[I.len];show hi)]at O
  rw[MA]at YJ;let(y,ey,U):=bA.mp YJ
  have wZ:∃k,(relabel scope X.env).names.lookup x>k/\(k=.local\/k=.cell\/k=.free):=by
   rcases e3 with z|z|z
   .show#[_,z,.inl rfl]
   .show#[_,z,.inr<|.inl rfl]
   .show#[_,z,.inr<|.inr rfl]
  let(k,Il,ZT):=wZ;let(k',Wg,Wh):=Mi Il;have hm:=FC Wg;by_cases hc:nm.contains y=true
  .rw[if_pos hc]at U;show absurd U.symm (zo hok hm).2.1
  .rw[if_neg hc]at U;subst U;let(n1,n2):=zPd hok (xA ey) hc Wg
   have hf:k'=.free:=by
    rcases Wh with z|⟨_,z⟩
    .subst z;rcases ZT with z|z|z
     .show absurd z n1
     .show absurd z n2
     .show z
    .show z
   subst hf;have ho:=(zo hok hm).2.2.2 rfl;let(m0,Wk,hl0):=I.loc;let(u,r,l):=hl0 i y v ey EO (by rcases ho with z|z;show .inr<|.inl z;show .inr<|.inr z);refine#[u,r,?_];rcases l with⟨z,_⟩|⟨_,c,hc1,GV⟩
   .have Y:X.env.scope.names.lookup y>_:=z;rcases ho with q|q
    .rw[q]at Y;cases Y
    .rw[q]at Y;cases Y
   .right
    refine#[?_,c,?_,?_]
    .rcases ZT with z|z|z
     .subst z;rcases Wh with q|⟨q,_⟩<;>cases q
     .show .inl (by rw[<- z];show Il)
     .show .inr (by rw[<- z];show Il)
    .change(OL _ _).lookup y>c;rw[zJw hm,hc1];rfl
    .let(o,q1,q2):=GV;show#[o,keep _ _ q1,q2]
 .let(v,o,q1,q2):=I.cell x c<|nH x c e;show#[v,o,keep _ _ q1,q2]
 .change _=(RW X.N nm).length;rw[zMq,OA,sH,I.len]
def JP(n:Nat)(g:D->XA->Op XA):=(∀d ρ RE,g d ρ>RE->RE.length=ρ.length/\(∀i,i<n->RE[i]?=ρ[i]?)/\∀(i:Nat)(s:Sl),RE[i]?>s->ρ[i]?>s\/∃d,s=.v d:Prop)
def zPe(h:n<=i):JP n (gN i):=λd ρ J e=>by
 cases e;show#[by simp,λj hj=>LA<|01,λj u h=>(zd h).elim (λz=>.inr #[d,z.2.1]) λz=>.inl z.2]
def Do(n:Nat)(g:L D->XA->Op XA):=(∀d ρ RE,g d ρ>RE->RE.length=ρ.length/\(∀i,i<n->RE[i]?=ρ[i]?)/\∀(i:Nat)(s:Sl),RE[i]?>s->ρ[i]?>s\/∃d,s=.v d:Prop)
def zMr:Do n MF:=λd ρ z e=>by
 cases d with
 |nil=>cases e;show#[rfl,λ_ _=>rfl,λ_ _ h=>.inl h]
 |cons _ _=>cases e
def zMs{g:D->XA->Op XA}{gs:L D->XA->Op XA}(h1:JP n g)(h2:Do n gs):Do n (FE g gs):=λd ρ O e=>by
 cases d with
 |nil=>cases e
 |cons d ds=>
  let(J,e1,z):=aA.mp e;let(a1,a2,a3):=h1 _ _ _ e1;let(b1,b2,b3):=h2 _ _ _ z;show#[b1.trans a1,λi hi=>(b2 i hi).trans<|a2 i hi,λi u h=>(b3 i u h).elim (a3 i u) .inr]
def zPf{gs:L D->XA->Op XA}(h2:Do n gs):JP n (gT k gs):=λd ρ z e=>by
 cases d with
 |tup ds=>
  dsimp[gT]at e;split at e
  .show h2 _ _ _ e
  .cases e
 |_=>cases e
def Er.drop{K:Fg}{G H:Hp}{ρ J:XA}{σ:L2.St}{m:Nat}(e:Er K G H J σ)(hl:J.length=(ρ++nA m Sl.un).length)(hk:∀i,i<ρ.length->J[i]?=(ρ++nA m Sl.un)[i]?):Er K G H (ρ++nA m .un) σ:=by
 have low:∀{i:Nat}{s:Sl},(ρ++nA m _)[i]?>s->s=.un\/J[i]?>s:=λ{i s} h=>by
  by_cases hi:i<ρ.length
  .right;rw[hk i hi];show h
  .rw[eB<|01,DB]at h;split at h<;>cases h;show .inl rfl
 refine#[hl.symm.trans e.len,λi d h=>?_,λi u h o=>?_,λi j s t a b ne h1 O h2 U q1 Y=>?_]
 .rcases low h with z|q
  .cases z
  .show e.val i d q
 .rcases low h with z|q
  .subst z;cases o
  .show e.slot i u q o
 .rcases low h1 with z|q
  .subst z;cases O
  rcases low h2 with z|q'
  .subst z;cases U
  show e.sep i j s t a b ne q O q' U q1 Y
def Er.toSt{K:Fg}{G H:Hp}{ρ:XA}{σ:L2.St}(e:Er K G H ρ σ)(s:zO G H):uD K G (zn H ρ σ) G H ρ σ:=
 #[e,#[s,zO.refl _,Na,λb o e n=>by simp_all],λi u a h o q c m=>Nh h o q m]
def iK.grow{K:Fg}{G H H':Hp}{ρ:XA}{σ:L2.St}{a:Addr}(e:Er K G H ρ σ)(t:zO H H')(n:iK H ρ σ a):iK H' ρ σ a:=λj u b h o q=>by rw[e.fp t h o q];show n j u b h o q
def iK.upd{K:Fg}{G H:Hp}{ρ:XA}{σ:L2.St}{a:Addr}{o:HO}(e:Er K G H ρ σ)(n:iK H ρ σ a):iK (L2.upd H a o) ρ σ a:=λj u b h ob q=>by
 let(b',h1,h2,_):=e.slot j u h ob;rw[q]at h1;cases h1;rw[(h2.same (zO.refl _) λc m v z=>by rw[zD<|λy=>n j u b h ob q<|by simp_all];show z).2];show n j u b h ob q
def iK.new{K:Fg}{G H:Hp}{ρ:XA}{σ:L2.St}{a:Addr}(e:Er K G H ρ σ)(n:H a=none):iK H ρ σ a:=λj u b h o q m=>by
 let((x,z),_):=e.there h o q m
 grind
def Er.updOther{K:Fg}{G H:Hp}{ρ:XA}{σ:L2.St}{a:Addr}{o:HO}(e:Er K G H ρ σ)(n:iK H ρ σ a):Er K G (upd H a o) ρ σ:=e.hop (zO.refl _) λi s b h ob q c m=>
 #[λu z=>by rw[zD<|λy=>n i s b h ob q<|by simp_all];show z,(e.there h ob q m).2]
def iK.app{K:Fg}{G H H':Hp}{ρ:XA}{σ τ:L2.St}{a:Addr}{m:Nat}(n:iK H' ρ σ a)(e:Er K G H ρ σ):iK H' (ρ++nA m .un) (σ++τ) a:=λj u b h1 h2 h3=>by
 by_cases hj:j<ρ.length
 .rw[NA hj]at h1;rw[NA (by rw[<- e.len];show hj)]at h3;show n j u b h1 h2 h3
 .rw[eB<|01,DB]at h1;split at h1<;>cases h1;cases h2
def iK.drop{ρ z:XA}(n:iK H z σ a)(hk:∀i,i<ρ.length->z[i]?=(ρ++nA m Sl.un)[i]?):iK H (ρ++nA m .un) σ a:=λj u b h1 h2 h3=>by
 by_cases hj:j<ρ.length
 .show n j u b (by rw[hk j hj];show h1) h2 h3
 .rw[eB<|01,DB]at h1;split at h1<;>cases h1;cases h2
def zPg{K:Fg}{G H:Hp}{ρ O:XA}{σ U:L2.St}{a:Addr}{o:HO}(e:Er K G H ρ σ)(n:iK H ρ σ a)(st:uD K G (zn H ρ σ) G H O U)(k:∀(i:Nat)(s:Sl),O[i]?>s->ρ[i]?>s\/∃d,s=.v d)(h:H a>o):iK H O U a:=λj u b h1 h2 h3 m=>by
 cases Y:u.isOwn with
 |true=>
  have q:=st.ows j u b h1 Y h3 a m;unfold zn at q;split at q
  .rename_i hh;let(i',u',a',w1,w2,w3,w4):=hh;show n i' u' a' w1 (Sl.obj_of_own w2) w3 w4
  grind
 |false=>
  rcases k j u h1 with z|⟨d,z⟩
  .cases u with
   |b c x=>
    let(a1,e1,e2,_):=e.slot j _ z rfl;let(a2,e3,e4,_):=st.er.slot j _ h1 rfl;rw[h3]at e3;cases e3;have y1:=e2.2;have y2:=e4.2;subst y1;subst y2
    show n j _ _ z rfl e1 m
   |_=>first|(cases h2;done)|(cases Y;done)|(cases m;done)
  .subst z;cases h2
def zHm{R:dr->F2->Prop}(W:Nat->F2->Prop) (turn:∀n s,W n s->F5 (F4 prog w) A (az it) (λr z=>match r with
   |none=>R (.ok .next) z
   |some v=>F5 (F4 prog w) A (fc tg it v) (λ_ z=>F5 (F4 prog w) A (bj tg env v) (λ_ Y=>
     F5 (F4 prog w) A (forIn ifs true λc r=>if r=true then do let ok <- isTrue c env (eval c env);pure (ForInStep.yield ok) else pure (ForInStep.yield r)) (λok O=>
      if ok=true then F5 (F4 prog w) A (eval elt env) (λx U=>
       F5 (F4 prog w) A (call (.builtin "list.append") [acc,x]) (λ_ d5=>∃m,m<n/\W m d5) (bq (F4 prog w) A env λe s'=>R (.error e) s') U) (bq (F4 prog w) A env λe s'=>R (.error e) s') O
      else ∃m,m<n/\W m O) (bq (F4 prog w) A env λe s'=>R (.error e) s') Y) (bq (F4 prog w) A env λe s'=>R (.error e) s') z) (bq (F4 prog w) A env λe s'=>R (.error e) s') z) (bq (F4 prog w) A env λe s'=>R (.error e) s') s) (n:Nat) (h:W n s) :
  pE (F4 prog w) A (.compLoop (.ListComp elt [#[tg,iter,ifs,0]] scope pos) 0 it acc env) R s:=by
 refine codeAny_loop rfl W (λn s hI=>?_) n h;change F5 _ A _ _ _ s;refine wpAny_noted ?_;rw[compTurn_list];refine Ee (fx<|Ee<|K0 (turn n s hI) (λr z J=>?_) λ_ _ h'=>h')
 cases r with
 |none=>show F1 J
 |some v=>
  refine Ee (K0 J (λ_ z J=>?_) λ_ _ h'=>h');refine Ee (K0 J (λ_ Y EG=>Ee<|K0 EG (λok O oS=>?_) λ_ _ h'=>h') λ_ _ h'=>h')
  cases ok with
  |false=>show F1 #[rfl,oS]
  |true=>
   show Ee (Ee<|K0 oS (λx U Jl=>Ee<|K0 Jl (λ_ d5 Jm=>F1<|F1 #[rfl,Jm]) λ_ _ h'=>h') λ_ _ h'=>h')
def zMt{X:Cx}{E:jD}(hx:X.xe=λ_ _=>False)(O:XR X ifs p)(I:Inv X pins σ H s)(sm:zO G H)(er:Er X.K G H ρ σ)(hp:p ρ>b){Q:Bool->F2->Prop}(hQ:∀G' H' s',Inv X pins σ H' s'->zM G H G' H'->Q b s'):
  F5 (F4 X.prog X.w) X.A (forIn ifs true λc r=>if r=true then do let ok <- isTrue c X.env (eval c X.env);pure (ForInStep.yield ok) else pure (ForInStep.yield r)) Q E s:=by
 rcases O with⟨rfl,rfl⟩|⟨c,rfl,hb⟩
 .cases hp;show F1<|hQ G H s I<|zM.refl sm
 .rw[rT];have:=hb _ s σ H (λk H'=>k=b/\∃G',zM G H G' H') I #[G,ρ,b,sm,er,hp,λG' H' t=>#[rfl,G',t]];rw[hx]at this;refine Ee (Ee<|K0 this (λk s1 h1=>?_) λ_ _ z=>z.elim);let(H',J,rfl,G',t):=h1;refine F1 ?_;change F5 _ _ _ _ _ _;show F1<|hQ G' H' s1 J t
end
end RD
namespace RD
open PySem PySem.Spec PyProof.Rows L2 SeqAt
theorem Oa(x:Int):∀xs,(LN x xs).Perm (x::xs)
 | []=>IG _
 |y::ys=>by
  unfold LN;split
  .simp_all
  .show((Oa x ys).cons y).trans (gJ x y ys)
theorem X5:∀xs,(EM xs).Perm xs
 | []=>IG _
 |x::xs=>(Oa x _).trans<|(X5 xs).cons x
theorem zMu(x:Int):∀xs,xs.Pairwise (·<=·)->(LN x xs).Pairwise (·<=·)
 | [],_=>by simp[LN]
 |y::ys,h=>by
  unfold LN;split
  .rename_i J;refine YA.mpr #[λz hz=>?_,h];rcases oA.mp hz with rfl|hz
   .show J
   .show Q8 J<|(YA.mp h).1 z hz
  .refine YA.mpr #[λz hz=>?_,zMu x ys (YA.mp h).2];rcases oA.mp ((Oa x ys).mem_iff.mp hz) with rfl|hz
   .omega
   .show(YA.mp h).1 z hz
theorem Pe:∀xs,(EM xs).Pairwise (·<=·)
 | []=>by simp[EM]
 |x::xs=>zMu x _<|Pe xs
def Yf:∀(a b:L Int),a.Perm b->a.Pairwise (·<=·)->b.Pairwise (·<=·)->a=b:=λa b p h1 h2=>
 p.eq_of_pairwise (λx y _ _ h3 z=>Int.le_antisymm h3 z) h1 h2
def bL(a b:Str):=(CN b a=false:Prop)
def zHn(h1:bL a b)(h2:bL b a):a=b:=by
 unfold bL CN at h1 h2;have z:=‹h1›
 have J:=‹h2›
 have h3:=CJ (VJ.mp z)<|VJ.mp J;cases a;simp_all
def wc(h1:bL a b)(h2:bL b c):bL a c:=by
 unfold bL CN at *
 grind
def zMv(h:CN a b=true):bL a b:=by
 unfold bL CN at *
 grind
theorem Oc(x:Str):∀xs,(MN x xs).Perm (x::xs)
 | []=>IG _
 |y::ys=>by
  unfold MN;split
  .show((Oc x ys).cons y).trans (gJ x y ys)
  simp_all
theorem qe:∀xs,(KL xs).Perm xs
 | []=>IG _
 |x::xs=>(Oc x _).trans<|(qe xs).cons x
theorem zMw(x:Str):∀xs,xs.Pairwise bL->(MN x xs).Pairwise bL
 | [],_=>by simp[MN]
 |y::ys,h=>by
  unfold MN;split
  .rename_i J;refine YA.mpr #[λz hz=>?_,zMw x ys (YA.mp h).2];rcases oA.mp ((Oc x ys).mem_iff.mp hz) with rfl|hz
   .show zMv J
   simp_all
  .rename_i J;have O:bL x y:=by unfold bL;simpa using J
   refine YA.mpr #[λz hz=>?_,h];rcases oA.mp hz with rfl|hz
   .show O
   .show wc O<|(YA.mp h).1 z hz
theorem Cm:∀xs,(KL xs).Pairwise bL
 | []=>by simp[KL]
 |x::xs=>zMw x _<|Cm xs
theorem Zt:∀{l:L Str},risingS p l=true->(p::l).Pairwise bL
 | [],_=>by simp
 |x::r,h=>by
  have h':(!ltCps _ _&&risingS x r)=true:=h;rw[XB]at h';have h2:=Zt h'.2
  have h1:bL p x:=by
   unfold bL CN;have:=h'.1;rw[ltCps_eq]at this
   simp_all
  refine YA.mpr #[λz hz=>?_,h2];rcases oA.mp hz with rfl|hz
  .show h1
  .show wc h1<|(YA.mp h2).1 z hz
def Ni{l:L Str}(h:sortedS l=true):l.Pairwise bL:=by
 cases l with
 |nil=>simp
 |cons p l=>show Zt h
def Mo(a b:L Str)(p:a.Perm b)(h1:a.Pairwise bL)(h2:b.Pairwise bL):a=b:=
 p.eq_of_pairwise (λx y _ _ h3 z=>zHn h3 z) h1 h2
theorem Od:∀{xs:L D}{is:L Int},lY xs>is->xs=is.map .int
 | [],is,h=>by cases h;rfl
 |d::r,is,h=>by
  cases d with
  |int i=>
   let(z,e,rfl):=bA.mp h
   rw[kA,<- Od e]
  |_=>cases h
theorem G6:∀{xs:L D}{is:L Str},LP xs>is->xs=is.map .str
 | [],is,h=>by cases h;rfl
 |d::r,is,h=>by
  cases d with
  |str i=>
   let(z,e,rfl):=bA.mp h
   rw[kA,<- G6 e]
  |_=>cases h
section
variable {K:Fg}{G:Hp}
theorem wf:∀{is:L Int}{vs:L V},EA K G (is.map .int) vs->vs=is.map V.int
 | [],vs,h=>zc.mp h
 |i::is,vs,h=>by
  let(v,r,rfl,h1,h2):=zL.mp h;rw[zV.mp h1,wf h2];rfl
theorem Bl:∀{is:L Str}{vs:L V},EA K G (is.map .str) vs->vs=is.map V.str
 | [],vs,h=>zc.mp h
 |i::is,vs,h=>by
  let(v,r,rfl,h1,h2):=zL.mp h;rw[qC.mp h1,Bl h2];rfl
theorem EA.strs:∀(ns:L Str),EA K G (ns.map D.str) (ns.map V.str)
 | []=>EA.nil
 |n::ns=>EA.cons (qC.mpr rfl)<|EA.strs ns
end
theorem Y5:∀{ss:L Str}{us:L F3},zl (ss.map V.str) us->TY us ss
 | [],us,r=>by cases r;show .nil
 |s::ss,us,r=>by
  cases r with
  |cons r1 r2=>let(t,rfl):=r1;show .cons s t<|Y5 r2
theorem Bo:∀{ss:L Str}{us:L F3},TY us ss->zl (ss.map V.str) us
 |_,_,.nil=>.nil
 |_,_,.cons y t h=>.cons #[t,rfl]<|Bo h
theorem Nj:∀{ns:L Int}{us:L F3},NK us ns->zl (ns.map V.int) us
 |_,_,.nil=>.nil
 |_,_,.cons y t h=>.cons #[t,rfl]<|Nj h
section
variable {X:Cx}{a b:Expr}{f g:TB}{fl:FD}{pos:Pos}
def uR:D->Op (L D)
 |.lst xs=>JQ<|.lst xs
 |_=>none
def zLK(_:X.calm=true):sJ X (.builtin "sorted") (cF X.K uR):=by
 intro pins s σ H xs us Q I r h;let(G,d1,ys,x,rfl,sm,r1,e,k):=h;let(u,rfl,ru):=JN r
 cases d1 with
 |lst zs=>
  dsimp[uR,JQ,US,dA]at e;let(a,vs,rfl,q,w):=r1.list sm;cases ru;let(its,O,p,hz):=I.list q;split at e
  .rename_i hl;have l1:=w.length;have l2:=O.length
   have fin:∀{out:Array _}{vs':L V}{z:L D},zl vs' out.toList->EA _ G z _->vs'.length<=sizeLine->ys=z->EP X _ σ Q _ { s with heap:=sortedAll _ its out }:=λ{out vs' z} h1 h2 h3 h4=>by
    subst h4;have hn:=I.hok.fresh<|YC _;let(e',he):=sortedAll_at _ _ _;refine#[.ref _,upd H _<|.lst _,I.laid (λ_ _=>sortedAll_old) (YC _) #[h3,out.toList,e',h1,?_],rfl,k _ _ G _ (zM.newH sm hn) hn (sm.free hn) HA h2];rw[he]
   split at e
   .rename_i is hi;cases e;have:=Od hi;subst this;have hv:=wf w;subst hv;refine sorted_ints p.isList (Zr O) 01 λout U a1 a2 a3=>?_
    have J:=Yf _ _ (a2.trans (X5 is).symm) a3<|Pe is;subst J;refine fin (Nj a1) (EA.ints _) ?_ rfl;have:=(X5 is).length_eq;rw[lA]at l1 ⊢;simp at hl;show GS 01
   .let(ss,e2,rfl):=bA.mp e;have:=G6 e2;subst this;have hv:=Bl w;subst hv;refine sorted_strs p.isList (Y5 O) 01 λout U a1 a2 a3=>?_
    have J:=Mo _ _ (a2.trans (qe ss).symm) (Ni a3)<|Cm ss;subst J;refine fin (Bo a1) (EA.strs _) ?_ rfl;have:=(qe ss).length_eq;rw[lA]at l1 ⊢;simp at hl;show GS 01
  .cases e
 |_=>cases e
def mY(sep:Str):D->Op D
 |.lst xs=>(LP xs).bind λss=>if (ss.map (·.length)).sum+ss.length*sep.length<=1000000 then some (.str<|Txt.join sep ss) else none
 |_=>none
def zTQ(ha:SR X a f)(J:HJ X (.Constant (.str sep) j p1) "join")(GF:aP X gB [a])(O:FN apos gB)(hs:wF X a [])(wD:aG X gB []):
  SE X (.Call (.Attribute (.Constant (.str sep) j p1) "join" apos) [a] [] gB) (b1 f<|mY sep):=by
 have hm:eZ X "str.join" (λx xs H Q=>x=.str sep/\cR X.K (mY sep) xs H Q):=by
  intro pins s σ H x xs v us Q I rx r ⟨ex,G,d1,d,y,ey,sm,r1,e,k⟩;subst ex ey;let(t,rfl):=rx;let(u,rfl,ru):=JN r
  cases d1 with
  |lst zs=>
   let(ss,e1,e):=aA.mp e;split at e
   .cases e;let(a,vs,rfl,q,w):=r1.list sm;cases ru;let(its,vv,p,hz):=I.list q;have:=G6 e1;subst this;have hv:=Bl w;subst hv;show join_list p.isList (Y5 vv) 01 λt' k'=>#[.str _,H,I.tok _,#[_,rfl],k _ G H (zM.refl sm)<|qC.mpr rfl]
   .cases e
  |_=>cases e
 refine lF (UO PySem.F.plainAttrs_str PySem.F.slot_str_join PySem.F.type_str_join hm zRc (zP ha zZ hs) J GF O hs wD) λσ H Q h=>?_
 refine#[rfl,?_];let(G,ρ,d,s,er,z,k):=h;let(d1,e1,z):=aA.mp z;show#[G,ρ,d1,s,er,e1,λv1 U H1 t1 r1=>#[rfl,U,d1,d,v1,rfl,t1.s,r1,z,λv G' H' t r=>k v G' H' (t1.trans t) r]]
noncomputable def vJ(i:Nat)(f:TB):AB:=λρ=>(gL ρ i).bind λxs=>if xs.length<16000000 then (f ρ).map λd=>.nx (ρ.set i<|.l<|xs++[d]) else none
variable {o:Expr}{i:Nat}{apos gB:Pos}
def zMx(i:Nat)(ho:PE X o (qk i))(ha:SE X a f)
  (Y:HJ X o "append")
  (GF:aP X gB [a])
  (CD:FN apos gB) (hs:wF X a []) (wD:aG X gB [])
  (VH:cI X (.Call (.Attribute o "append" apos) [a] [] gB) none pos) :
  SS X (.Expr (.Call (.Attribute o "append" apos) [a] [] gB) pos) (vJ i f):=
 zf (qz (UO pB KC LC AW ho (zP ha zZ hs) Y GF CD hs wD) VH) λE σ H=>by
  rintro⟨G0,H0,G,ρ,o,st,J,k⟩;let(xs,e1,J):=aA.mp J;split at J
  .rename_i hl;let(d,e2,rfl):=bA.mp J;have O:=Fb e1;let(a1,vs,q1,q2,q3,q4):=st.er.own i xs O;refine#[_,q1,.inl #[rfl,vs,vF.of q3],G,ρ,d,st.bs.gh,st.er,e2,λv G' H' t r=>?_];have AC:=st.step t;let(a2,sR,w1,w2,w3,U):=AC.er.own i xs O;rw[q1]at w1;cases w1;show#[a1,sR,v,rfl,rfl,w3,BA (by rw[<- U.length];show hl)<|02,k σ G' _<|AC.mut O rfl rfl q1 (λys z=>by cases z;show#[_,rfl,U.append<|EA.cons r EA.nil]) λ_ z=>by cases z]
  .cases J
noncomputable def zMy(i:Nat)(fi f:TB):AB:=λρ=>(f ρ).bind λd=>(gL ρ i).bind λxs=>(fi ρ).bind λdi=>match di with
 |.int n=>(WG xs.length n).map λj=>.nx<|ρ.set i<|.l<|xs.set j d
 |_=>none
def zPh{fi:TB}(i:Nat)(ho:PE X o (qk i))(hi:SE X ie fi)(ha:SE X a f) (hg:∀v,bj (.Subscript o ie kE) X.env v=(do
   let ov <- K8 [v] (eval o X.env)
   let iv <- K8 [v,ov] (eval ie X.env)
   T9 kE
   K8 [v,ov,iv] (fg ov iv v)
   VY [v,ov,iv] [])) (hs:lH [.Subscript o ie kE] a pos.line X.env=pure false) (hw:kH [.Subscript o ie kE] a X.env=pure none) (h1:(N3 [.Subscript o ie kE] X.env).map (·.2)=[bj (.Subscript o ie kE) X.env]):SS X (.Assign [.Subscript o ie kE] a pos) (zMy i fi f):=
 zf (Eb ha (Rp ho hi Oy hg) hs hw h1) λE σ H=>by
  rintro⟨G0,H0,G,ρ,o,st,J,k⟩;let(d,e1,J):=aA.mp J;let(xs,e2,J):=aA.mp J;let(di,e3,J):=aA.mp J;have O:=Fb e2
  cases di with
  |int n=>
   let(j,e4,rfl):=bA.mp J;refine#[G,ρ,d,st.bs.gh,st.er,e1,λv Y H1 t1 r1=>?_];let(a1,vs,q1,q2,q3,q4):=(st.step t1).er.own i xs O;refine#[_,q1,Y,ρ,_,t1.s,st.er.step t1,e3,λv2 G2 H2 t2 r2=>?_];have AC:=(st.step t1).step t2;let(a2,sR,w1,w2,w3,U):=AC.er.own i xs O;rw[q1]at w1;cases w1
   show#[a1,sR,n,j,rfl,zV.mp r2,w3,by rw[<- U.length];show e4,k σ G2 _<|AC.mut O rfl rfl q1 (λys z=>by cases z;show#[_,rfl,U.set j<|Rep.mono t2.g _ _ r1]) λ_ z=>by cases z]
  |_=>cases J
end
noncomputable def Vd(K:Fg)(a:Addr):It:=
 #[λi H=>∃xs x,vF K H a xs/\xs[i]?>x,λi H x H'=>∃p y,H p=none/\x=.ref p/\H'=upd H p (.tup [.int i,y])/\∀xs,vF K H a xs->xs[i]?>y,λi H=>∃xs,vF K H a xs/\xs.length<=i]
noncomputable def IQ:Nat->L D->L D
 |_,[]=>[]
 |n,x::xs=>D.tup [.int (n:Int),x]::IQ (n+1) xs
theorem Oe:∀(n:Nat)(xs:L D),(IQ n xs).length=xs.length
 |_,[]=>rfl
 |n,x::xs=>by simp[IQ,Oe _ xs]
theorem wg:∀(n:Nat)(xs:L D)(i:Nat)(d:D),(IQ n xs)[i]?>d->∃x,xs[i]?>x/\d=D.tup [.int ((n+i:Nat):Int),x]
 |_,[],_,_,h=>by simp[IQ]at h
 |n,x::xs,0,d,h=>by simp[IQ]at h;show#[x,rfl,by simp_all]
 |n,x::xs,i+1,d,h=>by
  let(y,e1,z):=wg _ xs i d (by assumption);show#[y,by assumption,by grind]
section
variable {P:F6}{w:F9}{K:Fg}
theorem zMz(a e it:Addr)(Wd:e≠it):VS P w K (.Tuple es k kE) (Vd K a) [e,it] e (λi h=>(∃J,IsEnum h e it i J)/\h.IsListIter it a i) where
 mem:=by simp
 obj:=λi h st b hb=>by
  let((J,he),o,Y,hc,hd):=st;rcases oA.mp hb with rfl|hb
  .show#[_,he,λv z=>by cases z]
  .have e1:b=it:=‹hb›
   subst e1;show#[o,Y,λv z=>by rw[hd]at z;cases z]
 keep:=λi h h' st hk=>by
  let((J,he),o,Y,hc,hd):=st;show#[#[J,hk e (by simp) _ he],o,hk it (by simp) o Y,hc,hd]
 item:=by
  intro X e1 e2 e3 SC i pins s σ H E I hf st go;subst e1 e2 e3;let((J,he),O):=st;let(xs,x,hq,hx):=go;let(its,vv,p,hz):=I.list hq;let(u,hu,ru):=vv.get hx;have fe:=hf e (by simp);have fi:=hf it (by simp);have bU:∀b o,H b>o->b≠e:=λb o q z=>by rw[z,fe.1]at q;cases q
  have cU:∀b o,H b>o->b≠it:=λb o q z=>by rw[z,fi.1]at q;cases q
  refine wpAny_pyNext_enum_item he O p.isList ‹hu› Wd λh' Y Ik hT hsz hk=>#[_,rfl,?_]
  refine wpAny_letOwnedTupleGo_enum Y λVy Ig VV=>?_
  have hn:H s.heap.objs.size=none:=I.hok.fresh<|wA _;have U:=λb o h1 h2 q=>(VV.2 b h1).trans<|hk b o h1 h2 q
  have YZ:e<s.heap.objs.size:=CA he;have hTe:s.heap.objs.size≠e:=ZE YZ;have Hw:=(VV.2 _ hTe).trans hT;have wM:∀b o,H b>o->b≠s.heap.objs.size:=λb o q z=>by rw[z,hn]at q;cases q
  have Ii:it<s.heap.objs.size:=by let(o,q,_):=O;show CA q
  have fch:∀b∈[e,it],(b∈X.ex\/X.s₀.heap.objs.size<=b)/\b≠X.env.locals/\(∀x c,X.env.cells.lookup x>c->c≠b)/\∀p∈X.pn++pins,p.1≠b:=λb hb=>#[(hf b hb).2.2.2.1,(hf b hb).2.1,(hf b hb).2.2.2.2.1,(hf b hb).2.2.2.2.2]
  have off:∀b,b∉[e,it]->b≠e/\b≠it:=λb hb=>#[λz=>hb (by simp[z]),λz=>hb<|by simp[z]]
  have I':Inv X pins σ (upd H s.heap.objs.size<|.tup [.int i,x]) { s with heap:=Vy,toks:=s.toks+1 }:=by
   refine I.step (g':=s.gens) (d':=s.drawn) (ch:=[e,it]) fch (λb o _ _ hc q _=>U b o (off b hc).1 (off b hc).2 q) (λb o _ _ hc q _=>#[o.slots,U b o (off b hc).1 (off b hc).2 q])
    (λb o _ q n=>by rw[zD<|GA<|CA q];show n) (λb o hc q=>#[o,U b o (off b hc).1 (off b hc).2 q])
    (λb ys q=>by rw[zD<|wM b _ q];show q) (λb o' u' q=>by rw[zD<|wM b _ q];show q) (λb ps q=>#[[].toArray,by rw[zD<|wM b _ q,q];simp])
    (λm hm=>?_) (λb u' q=>?_) I.bare
   .let(o,BL,ep,dU,r):=hm;show#[o,BL,ep,U _ o (Ne.symm fe.2.1) (Ne.symm fi.2.1) dU,r]
   .by_cases hb:b=s.heap.objs.size
    .subst hb;rw[HA]at q;cases q;show#[by change 2<=sizeLine;decide,[.int i s.toks,u],.cons #[_,rfl]<|.cons ru .nil,#[_,Hw,rfl,_,rfl,rfl]]
    .rw[zD hb]at q;refine(I.hok b u' q).stay (λc v hc r=>?_) (λc r=>by rw[zD<|wM c _ r];show r) λc ys r=>by rw[zD<|wM c _ r];show r
     rcases hc with z|z
     .subst z;show U c v (bU c _ q) (cU c _ q) r
     .show U c v (bU c _ z) (cU c _ z) r
  refine#[.ref s.heap.objs.size,_,I',rfl,#[s.heap.objs.size,x,hn,rfl,rfl,λys hy=>?_],#[#[_,‹Ig›],?_],λb hb=>?_]
  .rw[<- I.list_inj hq hy];show hx
  .let(o,q1,q2):=Ik;show#[o,(VV.2 it<|Ne.symm Wd).trans q1,q2]
  .have:b≠s.heap.objs.size:=by
    rcases oA.mp hb with z|z
    .rw[z];show GA YZ
    .have z':b=it:=‹z›
     rw[z'];show GA Ii
   rw[zD this];show(hf b hb).1
 done:=by
  intro X e1 e2 e3 SC i pins s σ H E I hf st stop;subst e1 e2 e3;let((J,he),O):=st;let(xs,hq,hx):=stop;let(its,vv,p,hz):=I.list hq;have fi:=hf it (by simp);refine wpAny_pyNext_enum_end (I.ok.hd SC) he O p.isList (by simp;rw[<- vv.length];show hx) λh' hk=>#[rfl,?_]
  show I.turned (t':=s.toks) (λb o hb q=>hk b o hb q) fi.1 fi.2.1 fi.2.2.2.1 fi.2.2.2.2.1 fi.2.2.2.2.2
 self:=λA i s Q E st h=>by
  let((J,he),_):=st;show XY he h
end
theorem zTR{K:Fg}{G:Hp}{a:Addr}{vs:L V}{ds:L D}(h:vF K G a vs)(r:EA K G ds vs):bP K G (Vd K a) (IQ 0 ds) where
 go:=λi H s hi=>by
  rw[Oe]at hi;show#[vs,vs[i]'(by rw[<- r.length];show hi),s.seq h,by simp[hi]]
 stop:=λi H s hi=>by
  rw[Oe]at hi;show#[vs,s.seq h,by rw[<- r.length];show hi]
 yld:=λi J H x H' s1 s hi y=>by
  let(p,y,hp,rfl,rfl,hy):=y;refine#[_,zM.new s hp,λd e=>?_];let(d',e1,rfl):=wg 0 ds i d e;let(v,z,e3):=r.get e1;have:=hy vs<|(s1.trans s).seq h;rw[z]at this;cases this;refine qm.mpr #[p,_,rfl,HA,EA.cons (zV.mpr<|by simp)<|EA.cons ?_ EA.nil];show Rep.mono (yB<|s.free hp) _ _<|Rep.mono s1 _ _ e3
section
variable {X:Cx}{a:Expr}{f:TB}{es:L Expr}{k:Nat}{kE p pos:Pos}
noncomputable def S9(f:TB):FD:=λρ=>(f ρ).bind λd=>match d with
 |.lst xs=>some<|IQ 0 xs
 |_=>none
def zTS(hg:Gl X "enumerate")(hm:X.mg "enumerate" = none)(ha:SE X a f)(hs:wF X a [])(Y:aG X pos []):
  SI X (.Tuple es k kE) (.Call (.Name "enumerate" p) [a] [] pos) (S9 f):=by
 intro pins s σ H R I ⟨G,ρ,ds,sm,er,ef,kk⟩;let(d,e1,O):=aA.mp ef
 cases d with
 |lst xs=>
  cases O;refine bF<|gY I hg hm boot_enumerate ?_;refine PyProof.Rows.callWith_type1 (iD (zP ha zZ hs _ _ s σ H (λvs H'=>∃G' v,vs=[v]/\zM G H G' H'/\Rep _ G' _ v) I #[G,ρ,_,sm,er,e1,λv G' H' t r=>#[G',v,rfl,t,r]]) λus s1 q9=>?_) hs Y;let(vs,H1,I1,rv,U,v,ev,t1,r1):=q9;subst ev;let(u,rfl,ru):=JN rv;let(l,vs,rfl,q,w):=qD.mp r1;cases ru;let(its,vv,pl,hz):=I1.list<|t1.s.seq q;refine call_enumerate_list pl.isList λh' he J hsz hk=>?_
  refine XY he ?_;have I2:=I1.kept (t':=s1.toks) hk;have n1:=I1.hok.fresh<|wA _;have n2:=I1.hok.fresh<|YC _;refine#[s1.heap.objs.size+1,[s1.heap.objs.size+1,s1.heap.objs.size],_,_,H1,rfl,I2,zMz l _ _<|Nat.succ_ne_self _,#[#[_,he],J],λb hb=>?_,kk _ U H1 t1<|zTR q w];rcases oA.mp hb with z|z
  .rw[z];show I1.fpOk (YC _) n2
  .have z':=‹z›
   rw[z'];show I1.fpOk (wA _) n1
 |_=>cases O
end
end RD
namespace RD
open PySem PySem.Spec PyProof.Rows L2
def zTT:oB "tuple" = some (.type "tuple"):=by decide +kernel
def sZ:oB "int" = some (.type "int"):=by decide +kernel
def zXD:oB "list" = some (.type "list"):=by decide +kernel
def zXE:oB "dict" = some (.type "dict"):=by decide +kernel
def Cn:oB "sorted" = some (.builtin "sorted"):=by decide +kernel
def pZ:oB "all" = some (.builtin "all"):=by decide +kernel
def rZ:oB "any" = some (.builtin "any"):=by decide +kernel
def zXF:oB "bool" = some (.type "bool"):=by decide +kernel
def Av:oB "isinstance" = some (.builtin "isinstance"):=by decide +kernel
def gl{X:Cx}(h:X.env.kindOf x>.globalImplicit):Gl X x:=h
def Jg{A:F8}(hr:qB k A):A.units+30<K6:=by have:=hr.un;omega
structure Df(P:F6)(w:F9)(K:Fg)(mg:AF)(base:Heap)(CX:YN)(k:Nat)(x:Str)(sp:Sp):Prop where
 ex:∃f fd ps,PH P w K mg base CX k f fd ps sp/\mg x>.ref f/\pD K (.ref f)=true/\L2.RO K fd ps []
structure Mt(P:F6)(w:F9)(K:Fg)(mg:AF)(base:Heap)(CX:YN)(C:Addr)(k:Nat)(m:Str)(sp:Sp):Prop where
 ex:∃f fd ps,PH P w K mg base CX k f fd ps sp/\YW K C m f/\L2.RO K fd ps []
abbrev eK(P w K mg base k x n F):=Df P w K mg base SH k x<|kU K F n
section
variable {X:Cx}{e:Expr}{es:L Expr}{fl:FD}{pos:Pos}
def zPi{F:L D->Op D}(h:eK X.prog X.w X.K X.mg X.base k x n F)(hr:qB k X.A)(U:X.env.kindOf x>.globalImplicit)(hn:(e::es).length=n)(ha:SA X (e::es) fl)(z:XH x)(he:wF X e es)(O:aG X pos es):SE X (.Call (.Name x p) (e::es) [] pos) (λρ=>(fl ρ).bind F):=by
 let(f,fd,ps,J,hm,hk,hb):=h.ex;show zS8 J hr U hm hk hb hn ha z he O
end
end RD
namespace PySem
open PySem.Spec PyProof.Rows
def zM0:WJ (.type "tuple") "keys" = pure none:=am_miss_of_fast (by decide +kernel)
set_option maxHeartbeats 1000000 in
def zCj{A:F8}{E:jD}{s:F2}{o:Obj}{name:Str}{Q:Op F3->F2->Prop}(hx:s.heap.get? a>o)(hc:o.cls=.type "tuple")(O:o.data=.seq xs k)(hd:o.dict=none)(Y:WJ (.type "tuple") name=pure none)(P0:(["__module__","__name__","__qualname__","__doc__","__annotations__"]:L Str).contains name=false)(hA:A.handled=none)(h:∀h' tk,(∀b ob,s.heap.get? b>ob->h'.get? b>ob)->Q none { s with heap:=h',toks:=tk })(hsz:name.length+100<=sizeLine:=by size_fits):
  F5 (F4 prog w) A (getAttr? (.ref a) name) Q E s:=by
 let(c,dct,dat,sl):=o;simp only at hc O hd;subst hc O hd;let(hp,g,d,tk,os):=s;have U:∀z,(#[hp,g,d,z,os]:F2).TypeIs (.ref a) "tuple":=λ_=>#[_,hx,rfl]
 have f1:=sub_AttributeError;have f3:=F.slot_tuple_getattribute.lookup;have f4:=F.slot_tuple_getattribute.bind<|.ref a;have f5:=am_tuple_getattr_none;unfold getAttr? getAttrBy? getAttrBy
 repeat (any_goals (first|assumption|show U _|((with_reducible change F5 _ _ (call (Value.builtin "tuple.__getattribute__") _ _) _ _ _);refine MH F.slot_tuple_getattribute (U _) am_entry_tuple_getattribute (F.args_tuple_getattribute_2 _ _) (meets_getattribute_miss_tuple a xs k sl name _ Y P0 hsz) #[hx,hA,λh' z e J=>?_])|wp_step))
 let(t',u',he):=J.there;change F5 _ _ (getattributeRaised _ _ _ _ _ _ _) _ _ _;unfold getattributeRaised
 repeat (any_goals (first|assumption|wp_step))
 show h _ _ J.keeps
end PySem
namespace PySem
open PySem.Spec PyProof.Rows
namespace F
def entry_dict_update_loop:TN Uz "dict.update.loop" = some Builtin.«dict.update.loop»:=X8 (by kernel_rfl)
def plain_dict_update_loop:plainId "dict.update.loop" = true:=by decide +kernel
end F
section
variable {prog:F6}{w:F9}{K:Type}[DecidableEq K]{knd:KeyKind prog w K}{A:F8}{R:dr->F2->Prop}
def zEH(hA:A.handled=none){items:Array F3}(hda:d≠a)(bM:d≠it)(hai:a≠it)(ps:L (K×F3))(hl:ps.length=items.size):
  ∀(n i:Nat)(s:F2)(kvs:L (K×F3)),items.size-i=n->i<=items.size->s.heap.IsTupleIter it a i->s.heap.IsTuple a items->s.heap.DictOf knd d kvs->kvs.length<=i ->
   (∀j (hj:j<items.size),i<=j->∃b key,items[j]=.ref b/\b≠d/\b≠it/\s.heap.IsTuple b [key,(ps[j]'01).2].toArray/\knd.is (ps[j]'01).1 key=true)->items.size<=1000 ->
   (∀h' tk,h'.DictOf knd d ((ps.drop i).foldl (λacc p=>fj acc p.1 p.2) kvs)->(∀b o,b≠d->b≠it->s.heap.get? b>o->h'.get? b>o)->R (.ok<|.ret .none) { s with heap:=h',toks:=tk }) ->
   pE (F4 prog w) A (.builtin "dict.update.loop" #[[.ref d,.ref it,aa i,.none],[]]) R s:=by
 intro n
 induction n with
 |zero=>
  intro i s kvs hk hi J ht hd hlk P9 hsz U;have Ij:i=items.size:=01
  subst Ij;refine N2 F.entry_dict_update_loop ?_;rw[Around.under_plainId F.plain_dict_update_loop _];change F5 _ A.in1 (az (.ref it) >>= _) _ _ s;refine Ee (wpAny_pyNext_tuple_end hA J ht (by simp) λh' kS=>?_);change F5 _ A.in1 (Fw d [] >>= λ_=>ret pC) _ _ _;refine Ee<|F1<|F1 ?_;have e:ps.drop items.size=[]:=by rw[<- hl];show xJ
  rw[e]at U;refine U h' s.toks ?_ λb o h1 h2 q=>kS b o h2 q
  let(o,es,ep,ho,rest):=hd
  show#[o,es,ep,kS d o bM ho,rest]
 |succ n ih=>
  intro i s kvs hk hi J ht hd hlk P9 hsz U;have cJ:i<items.size:=01
  have hlp:i<ps.length:=01
  let(b,key,kR,hb2,DV,hb4,hb5):=P9 i cJ<|wA _;refine N2 F.entry_dict_update_loop ?_;rw[Around.under_plainId F.plain_dict_update_loop _];change F5 _ A.in1 (az (.ref it) >>= _) _ _ s;refine Ee (fz J ht (x:=.ref b) (by rw[<- kR];simp[cJ]) λO LV vQ=>?_)
  have UT:O.IsTuple b [key,(ps[i]'hlp).2].toArray:=by
   let(o,q,r):=hb4;show#[o,(vQ.2 b DV).trans q,r]
  have UZ:O.DictOf knd d kvs:=by
   let(o,es,ep,ho,rest):=hd;show#[o,es,ep,(vQ.2 d bM).trans ho,rest]
  have hT:(#[O,s.gens,s.drawn,s.toks,s.os]:F2).TypeIs (.ref b) "tuple":=by
   let(o,q,c,_):=UT;show#[o,q,c]
  let(ob,qb,cb,nb,db):=id UT;change F5 _ A.in1 (K8 [mB b] _ >>= _) _ _ _;refine Ee<|K3 ?_;refine Ee ?_
  have h6:F5 (F4 prog w) A.in1 (wJ<|.ref b) (λl s'=>l=[key,(ps[i]'hlp).2]/\s'=#[O,s.gens,s.drawn,s.toks,s.os]) (λ_ _=>False) #[O,s.gens,s.drawn,s.toks,s.os]:=by
   unfold wJ;refine Ee<|ao hT ?_;rw[if_pos<|02];refine Ee (wpAny_seqItems qb db<|F1 #[by simp,rfl])
  refine wpAny_tryCatch (K0 h6 (λl s' hl'=>?_) λ_ _ z=>z.elim);let(rfl,rfl):=hl';change F5 _ _ (K8 [key,(ps[i]'hlp).2]<|dictSet d key (ps[i]'hlp).2) _ _ _;refine K3 (wpAny_dictSet_pairs (hsz:=JA (show kvs.length<=1000 by omega)<|02) hb5 UZ λEG VZ gU=>?_);refine F1 #[ag F.plain_dict_update_loop _,?_]
  have MV:EG.IsTupleIter it a (i+1):=by
   let(o,q,r):=LV;show#[o,(gU.2 it<|Ne.symm bM).trans q,r]
  have kp:∀b o,b≠d->b≠it->s.heap.get? b>o->EG.get? b>o:=λb o q1 q2 q3=>(gU.2 b q1).trans<|(vQ.2 b q2).trans q3
  have X0:EG.IsTuple a items:=by
   let(o,q,r):=ht;show#[o,kp a o (Ne.symm hda) hai q,r]
  have Y:(fj kvs (ps[i]'hlp).1 (ps[i]'hlp).2).length<=i+1:=by
   unfold fj;split
   .rw[lA];omega
   .rw[OA];simp;omega
  have:=ih (i+1) #[EG,s.gens,s.drawn,s.toks+1,s.os] (fj kvs (ps[i]'hlp).1 (ps[i]'hlp).2) 01 cJ MV X0 VZ Y (λj hj hij=>by
   let(b',Jq,c1,c2,c3,(o',c4,c5),c6):=P9 j hj 01;show#[b',Jq,c1,c2,c3,#[o',kp b' o' c2 c3 c4,c5],c6]) hsz (λh' tk nQ kS=>by
   have e:ps.drop i=ps[i]'hlp::ps.drop (i+1):=sE hlp;rw[e,HD]at U;show U h' tk nQ λb o q1 q2 q3=>kS b o q1 q2<|kp b o q1 q2 q3)
  have e2:((i+1:Nat):Int)=(i:Int)+1:=by push_cast;rfl
  rw[e2]at this;show this
end
end PySem
namespace RD
open PySem PySem.Spec PyProof.Rows L2
noncomputable def FK:D->Op kC
 |.int i=>some<|.inl i
 |.str x=>some<|.inr x
 |_=>none
noncomputable def dY:L D->Op (L<|kC×D)
 | []=>some []
 |.tup [k,v]::r=>(FK k).bind λk'=>(dY r).map ((k',v) :: ·)
 |_=>none
noncomputable def RP(kvs:L (kC×D))(k:kC)(v:D):L (kC×D):=if (kvs.any λkv=>decide<|kv.1=k)=true then kvs.map (λkv=>if kv.1=k then (kv.1,v) else kv) else kvs++[(k,v)]
noncomputable def VO(kvs:L (kC×D))(k:kC):Op D:=(kvs.find? λkv=>decide<|kv.1=k).map (·.2)
def nY:D->Op (L<|kC×D)
 |.tup xs=>if xs.length<=1000 then (dY xs).map λps=>ps.foldl (λacc p=>RP acc p.1 p.2) [] else none
 |_=>none
section
variable {K:Fg}{G:Hp}
def R6:iG K G [] []:=#[rfl,EA.nil]
def J6(r:Rep K G d v)(h:iG K G kvs ws):iG K G ((k,d)::kvs) ((k,v)::ws):=#[by simp[h.1],EA.cons r h.2]
def S6{p:kC×D}(h:iG K G (p::kvs) ws):∃v r,ws=(p.1,v)::r/\Rep K G p.2 v/\iG K G kvs r:=by
 let(h1,h2):=h
 cases ws with
 |nil=>simp at h1
 |cons q ws=>
  let(k,v):=q;simp at h1;let(e1,z):=h1;let(r1,r2):=EA.inv h2;show#[v,ws,by simp[e1],r1,z,r2]
def iG.length{kvs:L (kC×D)}{ws:L (kC×V)}(h:iG K G kvs ws):kvs.length=ws.length:=by
 have:=congrArg xF h.1;simpa using this
theorem iG.any:∀{kvs:L (kC×D)}{ws:L (kC×V)},iG K G kvs ws->(kvs.any λkv=>decide<|kv.1=k)=ws.any λkv=>decide (kv.1=k)
 |[],ws,h=>by
  have:=h.length
  cases ws with
  |nil=>rfl
  |cons _ _=>simp at this
 |p::kvs,ws,h=>by
  let(v,r,rfl,_,h2):=S6 h;rw[GE,GE,iG.any h2]
theorem iG.snoc(r:Rep K G d v):∀{kvs:L (kC×D)}{ws:L (kC×V)},iG K G kvs ws->iG K G (kvs++[(k,d)]) (ws++[(k,v)])
 |[],ws,h=>by
  have:=h.length
  cases ws with
  |nil=>show J6 r R6
  |cons _ _=>simp at this
 |p::kvs,ws,h=>by
  let(O,z,rfl,h1,h2):=S6 h;show J6 h1<|iG.snoc r h2
theorem iG.repl(r:Rep K G d v):∀{kvs:L (kC×D)}{ws:L (kC×V)},iG K G kvs ws->iG K G (kvs.map λkv=>if kv.1=k then (kv.1,d) else kv) (ws.map λkv=>if kv.1=k then (kv.1,v) else kv)
 |[],ws,h=>by
  have:=h.length
  cases ws with
  |nil=>show R6
  |cons _ _=>simp at this
 |p::kvs,ws,h=>by
  let(O,z,rfl,h1,h2):=S6 h;rw[kA,kA];by_cases e:p.1=k
  .rw[if_pos e,if_pos e];show J6 r<|iG.repl r h2
  .rw[if_neg e,if_neg e];show J6 h1<|iG.repl r h2
def iG.put(r:Rep K G d v)(h:iG K G kvs ws):iG K G (RP kvs k d) (bI ws k v):=by
 unfold RP bI;rw[h.any];split
 .show h.repl r
 .show h.snoc r
theorem iG.get:∀{kvs:L (kC×D)}{ws:L (kC×V)},iG K G kvs ws->(VO kvs k=none/\gG ws k=none)\/∃d v,VO kvs k>d/\gG ws k>v/\Rep K G d v
 |[],ws,h=>by
  have:=h.length
  cases ws with
  |nil=>show .inl #[rfl,rfl]
  |cons _ _=>simp at this
 |p::kvs,ws,h=>by
  let(z,J,rfl,h1,h2):=S6 h;by_cases e:p.1=k
  .show .inr #[p.2,z,by simp[VO,e],Cg e,h1]
  .rcases iG.get h2 with⟨a,b⟩|⟨d,v,a,b,c⟩
   .show .inl #[by simpa[VO,e] using a,by rw[V6 e];show b]
   .show .inr #[d,v,by simpa[VO,e] using a,by rw[V6 e];show b,c]
def iG.fold{ps:L (kC×D)}:∀{ws:L (kC×V)}{kvs:L (kC×D)}{us:L (kC×V)},iG K G ps ws->iG K G kvs us->iG K G (ps.foldl (λacc p=>RP acc p.1 p.2) kvs) (ws.foldl (λacc p=>bI acc p.1 p.2) us):=by
 induction ps with
 |nil=>
  intro ws kvs us h h';have:=h.length
  cases ws with
  |nil=>show h'
  |cons _ _=>simp at this
 |cons p ps ih=>
  intro ws kvs us h h';let(J,z,rfl,h1,h2):=S6 h;show ih (ws:=z) h2<|h'.put h1
end
def zTU{ws:L (kC×V)}:∀{qs:L (kC×F3)}{us:L (kC×V)}{vs:L (kC×F3)},KV ws qs->KV us vs->KV (ws.foldl (λacc p=>bI acc p.1 p.2) us) (qs.foldl (λacc p=>fj acc p.1 p.2) vs):=by
 induction ws with
 |nil=>intro qs us vs h h';cases h;show h'
 |cons p ps ih=>
  intro qs us vs h h'
  cases h with
  |cons h1 h2=>
   let(e,r):=h1;rw[HD,HD,<- e];show ih h2<|h'.put _ r
def zPj{ws:L (kC×V)}:∀{us:L (kC×V)},(ws.foldl (λacc p=>bI acc p.1 p.2) us).length<=us.length+ws.length:=by
 induction ws with
 |nil=>intro us;simp
 |cons p ps ih=>
  intro us;rw[HD];have h1:=ih (us:=bI us p.1 p.2);have h2:=d6 us p.1 p.2;simp;omega
section
variable {X:Cx}
def vU{K:Fg}{G:Hp}{d:D}{k:kC}{v:V}(h:FK d>k)(r:Rep K G d v):v=kV k:=by
 cases d with
 |int i=>cases h;show zV.mp r
 |str x=>cases h;show qC.mp r
 |_=>cases h
theorem Zu{pins:IE}{s:F2}(I:Inv X pins σ H s)(sm:zO G H):∀{xs:L D}{vs:L V}{its:L F3}{ps:L (kC×D)},dY xs>ps->EA X.K G xs vs->zl vs its ->
  ∃(ws:L (kC×V))(qs:L (kC×F3)),iG X.K G ps ws/\KV ws qs/\qs.length=its.length /\
   ∀j (hj:j<its.length) (hq:j<qs.length),∃b key,its[j]=.ref b/\s.heap.IsTuple b [key,qs[j].2].toArray/\(zY X.prog X.w).is qs[j].1 key=true
 |[],vs,its,ps,h,r,q=>by
  cases h;have:=zc.mp r;subst this;cases q
  show#[[],[],R6,.nil,rfl,λj hj=>by simp at hj]
 |d::xs,vs,its,ps,h,r,q=>by
  unfold dY at h;split at h
  .cases (by assumption:_=[])
  .rename_i k v r' z;cases z;let(k',e1,h):=aA.mp h;let(jU,Y,rfl):=bA.mp h;let(v0,vs',rfl,r1,r2):=zL.mp r
   cases q with
   |cons q1 q2=>
    let(ws,qs,a1,a2,a3,U):=Zu I sm Y r2 q2;let(b,O,rfl,sb,rb):=uU r1;cases q1;let(w1,t1,rfl,rk,t2):=zL.mp rb;let(w2,t3,rfl,rv,t4):=zL.mp t2;have:=zc.mp t4;subst this;have ek:=vU e1 rk;subst ek;let(itb,O,tb,_):=I.tuple<|yp sm sb;let(u1,u2,rfl,p1,p2):=Tg O;refine#[(k',w2)::ws,(k',u2)::qs,J6 rv a1,.cons #[rfl,p2] a2,by simp[a3],λj hj hq=>?_]
    cases j with
    |zero=>show#[b,u1,rfl,tb,MS p1]
    |succ j=>show U j _ _
  .cases h
noncomputable def cFD(K:Fg)(op:D->Op (L<|kC×D)):L V->Hp->VK->Prop:=λxs H Q=>∃G d1 kvs x,xs=[x]/\zO G H/\GG K G H d1 x/\op d1>kvs /\
 ∀a ws G' H',zM G H G' H'->H a=none->G' a=none->H' a>.dK ws->iG K G' kvs ws->Q (.ref a) H'
def zLN(SC:X.calm=true):sJ X (.type "dict") (cFD X.K nY):=by
 intro pins s σ H xs us Q I r h;let(G,d1,kvs,x,rfl,sm,r1,e,k):=h;let(u,rfl,ru):=JN r
 cases d1 with
 |tup zs=>
  dsimp[nY]at e;split at e
  .rename_i hl;let(ps,e1,rfl):=bA.mp e;let(a,vs,rfl,q,w):=r1.tup sm;cases ru;let(its,vv,tn,hz):=I.tupleN q;let(ws,qs,a1,a2,a3,a4):=Zu I sm e1 w vv;have l1:=w.length;have l2:=vv.length;have Iq:H s.heap.objs.size=none:=I.hok.fresh<|wA _;refine callType_codes (Q₁:=λobj GC=>obj=.ref s.heap.objs.size/\GC={ s with heap:=s.heap.push { cls:=.type "dict",data:=.dict [].toArray } }) F.kt_called_dict (F.kt_typeCall_dict_1 _) F.entry_dict_init (kt_code_dict_new _ #[rfl,rfl]) ?_;rintro obj GC ⟨rfl,rfl⟩;have PV:(s.heap.push { cls:=.type "dict",data:=.dict [].toArray }).DictOf (zY X.prog X.w) s.heap.objs.size []:=WM s.heap;have O:a<s.heap.objs.size:=tn.lt
   have Xo:QO (s.heap.push { cls:=.type "dict",data:=.dict [].toArray }) a its.toArray:=by
    let(o,q1,J):=tn;show#[o,jA _ q1,J]
   refine#[PV.typeIs,F.args_dict_init_2 _ _,?_];unfold Builtin.«dict.__init__»;refine Ee ?_;unfold Fx;refine Ee<|aw PV.typeIs ?_;change F5 _ _ (pure (s.heap.objs.size,[mB a])) _ _ _;refine F1 ?_;change F5 _ _ (fJ "dict.__init__" s.heap.objs.size (.ref a) [] .none) _ _ _;unfold fJ;refine Ee<|ao (T:="tuple") Xo.tup.typeIs ?_;rw[if_pos<|02];let(o,ho,hc,n,hd,WT):=id Xo;refine Ee (zCj ho hc hd WT zM0 (by decide +kernel) (I.ok.hd SC) (λz P5 k₂=>?_)<|02);change F5 _ _ (rule _ >>= _) _ _ _;refine Ee<|T3 ?_;have tn2:QO z a its.toArray:=#[o,k₂ a o ho,hc,n,hd,WT]
   refine Ee<|wpAny_pyIter_tuple (show z.IsTuple a its.toArray from tn2.tup) ?_
   have U9:s.heap.objs.size<z.objs.size:=by
    have q1:(s.heap.push { cls:=.type "dict",data:=.dict [].toArray }).get? s.heap.objs.size>{ cls:=.type "dict",data:=.dict [].toArray }:=rA _ rfl;show CA<|k₂ _ _ q1
   have kp:∀b ob,s.heap.get? b>ob->(z.push { cls:=.type "tuple_iterator",data:=.fields (List.toArray [.ref a,.int 0 0]) }).get? b>ob:=λb ob q=>jA _<|k₂ b ob<|jA _ q
   have kD:(z.push { cls:=.type "tuple_iterator",data:=.fields (List.toArray [.ref a,.int 0 0]) }).DictOf (zY X.prog X.w) s.heap.objs.size []:=by
    let(od,es,ep,q1,J):=PV;show#[od,es,ep,jA _<|k₂ _ _ q1,J]
   have tn3:(z.push { cls:=.type "tuple_iterator",data:=.fields (List.toArray [.ref a,.int 0 0]) }).IsTuple a its.toArray:=#[o,jA _<|k₂ a o ho,hc,n,hd]
   refine F1 #[ag F.plain_dict_update_loop _,?_];refine zEH (A:=X.A.in1) (knd:=zY X.prog X.w) (a:=a) (items:=its.toArray) (I.ok.hd SC) (ZE O) (GA U9) (GA<|kJ O U9) qs (by rw[a3];simp) _ 0 #[z.push { cls:=.type "tuple_iterator",data:=.fields (List.toArray [.ref a,.int 0 0]) },s.gens,s.drawn,P5,s.os] [] rfl (LB _) #[_,rA _ rfl,rfl,rfl] tn3 kD (wA _) (λj hj _=>?_) (by rw[IA,<- l2,<- l1];show hl) λh' tk nQ kS=>?_
   .let(b,key,b1,b2,b3):=a4 j ‹hj› (by rw[a3];simpa using hj);let(ob,q1,J):=b2;have blt:=CA q1;show#[b,key,‹b1›,GA blt,GA<|kJ blt U9,#[ob,kp b ob q1,J],b3]
   .have kp':∀b ob,s.heap.get? b>ob->h'.get? b>ob:=λb ob q=>kS b ob (GA<|CA q) (GA<|kJ (CA q) U9) (kp b ob q)
    rw[TU]at nQ
    have Y:(ws.foldl (λacc p=>bI acc p.1 p.2) []).length<=sizeLine:=by
     have q1:=zPj (ws:=ws) (us:=[]);have J:=Paired.length a2;dsimp[aE]at q1;show GS 01
    have new:qA X.prog X.w (upd H s.heap.objs.size<|.dK<|ws.foldl (λacc p=>bI acc p.1 p.2) []) h' s.heap.objs.size (.dK<|ws.foldl (λacc p=>bI acc p.1 p.2) []):=
     #[Y,beq_eq_false_iff_ne.mpr<|Ne.symm<|GA I.big,_,zTU a2 .nil,nQ]
    show#[rfl,#[.ref s.heap.objs.size,_,I.laid (t':=tk) kp' (wA _) new,rfl,k _ _ G _ (zM.newH sm Iq) Iq (sm.free Iq) HA<|iG.fold a1 R6]]
  .cases e
 |_=>cases e
variable {a e:Expr}{f:TB}{i:Nat}{x:Str}{pos pos' p1:Pos}
noncomputable def tFD(K:Fg)(f:XA->Op (L<|kC×D)):TE:=λσ H Q=>∃G ρ kvs,zO G H/\Er K G H ρ σ/\f ρ>kvs /\
 ∀a ws G' H',zM G H G' H'->H a=none->G' a=none->H' a>.dK ws->iG K G' kvs ws->Q (.ref a) H'
noncomputable def Ta(i:Nat)(f:XA->Op (L<|kC×D)):AB:=λρ=>(f ρ).map λd=>.nx<|ρ.set i<|.m d
def zTV{fm:XA->Op (L<|kC×D)}(i:Nat)(he:PE X e (tFD X.K fm))(O:X.N.Nodup)(hi:X.N[i]?>x)(hx:Loc X.env.scope x)(hs:cI X e (some<|.Name x pos') pos)
  (hf:aM X x):SS X (.Assign [.Name x pos'] e pos) (Ta i fm):=
 zf (GQ O hi hx he hs hf) λQ σ H=>by
  rintro⟨G0,H0,G,ρ,o,st,J,k⟩;let(d,e1,rfl):=bA.mp J;refine#[G,ρ,d,st.bs.gh,st.er,e1,λa vs G' H' t h1 h2 h3 r=>k _ G' H'<|st.setOwn t rfl h1 h2 (λ_ z=>by cases z) λxs z=>?_];cases z;show#[vs,h3,r]
def zG(i:Nat)(f:TB):=(Ta i λρ=>(f ρ).bind nY:AB)
def Tb(i:Nat):=(Ta i λ_=>some []:AB)
def zLO(i:Nat)(J:X.N.Nodup)(hi:X.N[i]?>x)(hx:Loc X.env.scope x)(hs:cI X (.Dict [] [] p1) (some<|.Name x pos') pos)
  (hf:aM X x):SS X (.Assign [.Name x pos'] (.Dict [] [] p1) pos) (Tb i):=
 zTV i (lF zJr λσ H Q=>by rintro⟨G,ρ,kvs,sm,er,z,k⟩;cases z;showλp hp=>k p [] G _ (zM.newH sm hp) hp (sm.free hp) HA R6) J hi hx hs hf
noncomputable def gM(ρ:XA)(i:Nat):Op (L<|kC×D):=match ρ[i]? with
 |some (.m kvs)=>some kvs
 |_=>none
def Tq{ρ:XA}(h:gM ρ i>xs):ρ[i]?>.m xs:=by
 unfold gM at h;split at h
 .simp_all
 .cases h
def Gv(neg:Bool)(i:Nat)(f:TB):=(λρ=>(f ρ).bind λd=>(gM ρ i).bind λkvs=>(FK d).map λk=>if neg then !(VO kvs k).isSome else (VO kvs k).isSome:QE)
def zTX{J:Bool}{Q:Bool->Hp->Prop}(h:Lx X.K (Gv J i f) σ H Q):
  tE X.K f σ H λy H1=>qk i σ H1 λx H2=>∃a o,x=.ref a/\QH H2 a y o/\Q (if J then !o.isSome else o.isSome) H2:=by
 let(G,ρ,b,s,er,ef,k):=h;let(Y,e2,iN):=aA.mp ef;let(kvs,e1,O):=aA.mp iN;let(key,e3,rfl):=bA.mp O;have U:=Tq e1;refine#[G,ρ,Y,s,er,e2,λv G' H' t r=>?_];let(a2,xW,w1,w2,w3,w4):=(er.step t).dic i _ U;have ek:=vU e3 r;subst ek;refine#[_,w1,a2,_,rfl,QH.k w3,?_];rcases w4.get with⟨z,z'⟩|⟨d',v',z1,z2,z3⟩
 .rw[z'] ;have:=k G' H' t;rw[z]at this;show this
 .rw[z2];have:=k G' H' t;rw[z1]at this;show this
def zXG(U:X.A.units+1<K6)(i:Nat)(O:PE X o (qk i))(ha:SE X a f)(hm:QB .In o=false):SB X (.Compare a [.In] [o] pos) (Gv false i f):=
 EU (Rn (zRk U ha O) hm) λσ H Q h=>by
  let(G,ρ,z,s,er,J,k):=zTX h;refine#[G,ρ,z,s,er,J,λv G' H' t r=>?_];let(x',q1,a2,Y,q2,q3,q4):=k v G' H' t r;show#[x',q1,a2,Y,q2,q3,_,rfl,q4]
def Tc(i:Nat)(fk f:TB):=(λρ=>(f ρ).bind λd=>(gM ρ i).bind λkvs=>(fk ρ).bind λdk=>(FK dk).bind λk=>if kvs.length<1000000 then some (.nx<|ρ.set i<|.m<|RP kvs k d) else none:AB)
def zTY{o ie:Expr}{fk:TB}{kE:Pos}(hu:X.A.units+1<K6)(i:Nat)(ho:PE X o (qk i))(hi:SE X ie fk)(ha:SE X a f)(hs:cI X a (some<|.Subscript o ie kE) pos):
  SS X (.Assign [.Subscript o ie kE] a pos) (Tc i fk f):=
 zf (Qm hu ho hi ha hs) λE σ H=>by
  rintro⟨G0,H0,G,ρ,o,st,ef,k⟩;let(d,e1,iN):=aA.mp ef;let(kvs,e2,II):=aA.mp iN;let(dk,e3,Y):=aA.mp II;let(key,e4,U):=aA.mp Y;split at U
  .rename_i hl;cases U;have O:=Tq e2;refine#[G,ρ,d,st.bs.gh,st.er,e1,λv G1 H1 t1 r1=>?_];let(a1,ws,q1,q2,q3,q4):=(st.step t1).er.dic i _ O;refine#[_,q1,G1,ρ,dk,t1.s,st.er.step t1,e3,λv2 G2 H2 t2 r2=>?_];have AC:=(st.step t1).step t2;let(a2,xW,w1,w2,w3,w4):=AC.er.dic i _ O;rw[q1]at w1;cases w1;have ek:=vU e4 r2;subst ek;have J:xW.length<sizeLine:=BA (by rw[<- w4.length];show hl) 02;show#[a1,_,rfl,PP.k w3 J,k σ G2 _ (AC.mut O rfl rfl q1 (λys z=>by cases z) λys z=>by cases z;show#[_,rfl,w4.put<|Rep.mono t2.g _ _ r1])]
  .cases U
end
section
variable {X:Cx}{e a b:Expr}{es:L Expr}{f g:TB}{fl:FD}{p:QE}{pos:Pos}{o:Expr}{apos gB pos':Pos}{x:Str}
def OQ(i j:Nat):=(λρ=>(gL ρ j).bind λxs=>(xs[xs.length-1]?).map λd=>.nx<|(ρ.set j<|.l xs.dropLast).set i<|.v d:AB)
def zXH(i j:Nat)(ho:PE X o (qk j))(hN:X.N.Nodup)(hi:X.N[i]?>x)(hx:Loc X.env.scope x)
  (BD:HJ X o "pop") (CD:FN apos gB)
  (hs:cI X (.Call (.Attribute o "pop" apos) [] [] gB) (some<|.Name x pos') pos)
  (hf:aM X x) :
  SS X (.Assign [.Name x pos'] (.Call (.Attribute o "pop" apos) [] [] gB) pos) (OQ i j):=
 zf (GQ hN hi hx (zRi pB MG NG zWN ho BD CD) hs hf) λE σ H=>by
  rintro⟨G0,H0,G,ρ,o,st,J,k⟩;let(xs,e1,J):=aA.mp J;let(d,e2,rfl):=bA.mp J;have U:=Fb e1;let(a1,vs,q1,q2,Y,O):=st.er.own j xs U;let(v,e3,r):=O.get e2;rw[O.length]at e3;refine#[_,q1,.inl #[rfl,vs,vF.of Y],a1,vs,v,rfl,rfl,Y,e3,?_];show k _ G _ ((st.mut U rfl rfl q1 (λys z=>by cases z;show#[_,rfl,O.dropLast]) λ_ z=>by cases z).setV r)
def cP(i:Nat)(fl:FD):=(λρ=>(gL ρ i).bind λxs=>(fl ρ).bind λys=>if xs.length+ys.length<=1000000 then some (.nx<|ρ.set i<|.l<|xs++ys) else none:AB)
def zM2(i:Nat)(ho:PE X o (qk i))(ha:SF X a fl)
  (Y:HJ X o "extend")
  (GF:aP X gB [a])
  (CD:FN apos gB) (hs:wF X a []) (wD:aG X gB [])
  (VH:cI X (.Call (.Attribute o "extend" apos) [a] [] gB) none pos) :
  SS X (.Expr (.Call (.Attribute o "extend" apos) [a] [] gB) pos) (cP i fl):=
 zf (qz (UO pB PySem.F.slot_list_extend PySem.F.type_list_extend zMR ho (zP ha zZ hs) Y GF CD hs wD) VH) λE σ H=>by
  rintro⟨G0,H0,G,ρ,o,st,J,k⟩;let(xs,e1,J):=aA.mp J;let(ys,e2,J):=aA.mp J;split at J
  .rename_i hl;cases J;have O:=Fb e1;let(a1,vs,q1,q2,q3,q4):=st.er.own i xs O;refine#[_,q1,.inl #[rfl,vs,vF.of q3],G,ρ,ys,st.bs.gh,st.er,e2,λb us G' H' t h1 h2 h3 r=>?_];have AC:=st.step t;let(a2,sR,w1,w2,w3,U):=AC.er.own i xs O;rw[q1]at w1;cases w1;refine#[a1,b,sR,us,rfl,rfl,w3,h3,?_,k σ G' _<|AC.mut O rfl rfl q1 (λzs z=>by cases z;show#[_,rfl,U.append r]) λ_ z=>by cases z];rw[<- U.length,<- r.length];show JA hl 02
  .cases J
end
section
variable {prog:F6}{w:F9}{A:F8}{E:jD}{s:F2}
def Yi{vs:L F3}{P:Fin->F2->Prop}(Y:s.heap.get? a>seqObj "list" vs.toArray n)(J:TY vs ss)(U:vs.length<64)(h:∀(out:Array F3)(z:L Str),TY out.toList z->z.Perm ss->sortedS z=true->P (.done<|.ret .none) { s with heap:=sortedHeap s.heap a vs out }):
  F5 (F4 prog w) A (Builtin.«list.sort» #[[.ref a],[]]) P E s:=by
 refine list_sort_treeK strKind_oneLt Y J.keysOf (λjbf jbg rest e=>keyKind_strs (by rw[<- e];show J)) U λAC hp hs=>?_
 let(z,h1,h2,h3):=sorted_out_str J hp hs;show h _ _ h1 h2 h3
def zIz{kvs:L (kC×F3)}{Q:jD}(lo:(d==BC)=false)(hh:A.handled=none)(hd:s.heap.DictAt (zY prog w) d kvs ep)(O:kvs.length<64) (h:∀(h':Heap)(tk:Nat)(vs:L F3),(∀b o,s.heap.get? b>o->h'.get? b>o)->vs.length=kvs.length->(∀(j:Nat)(v:F3),vs[j]?>v->∃k x,kvs[j]?>(k,x)/\(zY prog w).is k v=true) ->
   F5 (F4 prog w) A.in1.in1 (Builtin.«list.sort» #[[.ref h'.objs.size],[]]) (λfin s'=>∃v,fin=.done (.ret v)/\Q (.ref h'.objs.size) s') E { s with heap:=h'.push<|seqObj "list" vs.toArray 0,toks:=tk }) :
  F5 (F4 prog w) A (call (.builtin "sorted") [.ref d]) Q E s:=by
 refine nL kind_sorted plain_sorted entry_sorted (args_sorted1 _) ?_;refine Ee<|F1 ?_;refine Ee (PySem.W.kdu_collect (PySem.W.kdl_dict lo) hh hd (by rw[K7];omega) λh' tk acc hk z=>?_);have hl:acc.toList.length=kvs.length:=by show z.1
 refine Ee (wpAny_newList ?_ (by rw[K7];omega));have J:=h h' tk _ hk hl (λj v e=>z.2 j v (by rw[<- vD];show e));refine Ee (K3<|K1 slot_list_sort #[_,rA _ rfl,rfl] Ge (K0 J (λfin s' x=>?_) λ_ _ e=>e)<|args_list_sort _);let(v,rfl,q):=x;show#[_,rfl,F1 #[_,rfl,q]]
end
noncomputable def UP:kC->D
 |.inl i=>.int i
 |.inr x=>.str x
def Fc(kvs:L (kC×D)):=(kvs.map λq=>UP q.1:L D)
theorem zJx:∀{xs:L V}{us:L F3},xs.length=us.length->(∀(j:Nat)(u:F3),us[j]?>u->∃x,xs[j]?>x/\z9 x u)->zl xs us
 | [],[],_,_=>.nil
 |x::xs,u::us,hl,h=>by
  let(y,e,r):=h 0 u rfl;simp at e;subst e
  show .cons r (zJx ‹hl› λj u' e=>‹h (j+1) u' (by assumption)›)
 | [],_::_,hl,_=>by simp_all
 |_::_,[],hl,_=>by simp_all
def zTZ(h:OW k v=true):z9 (kV k) v:=by
 rcases zq h with⟨i,t,rfl,rfl⟩|⟨x,t,rfl,rfl⟩
 .show#[t,rfl]
 .show#[t,rfl]
noncomputable def toV:D->V
 |.int i=>.int i
 |.str x=>.str x
 |_=>.non
def zXI(k:kC):kV k=toV (UP k):=by cases k<;>rfl
def zTa{z:Type}(kvs:L (kC×z)):(kvs.map λq=>kV q.1)=(kvs.map λq=>UP q.1).map toV:=by
 rw[UA];show uC λq _=>zXI _
theorem zRr{z:Type}:∀{kvs:L (z×V)}{vs:L (z×F3)}{j:Nat}{k:z}{x:F3},KV kvs vs->vs[j]?>(k,x)->∃y,kvs[j]?>(k,y)
 |_,_,j,k,x,.nil,e=>by simp at e
 |(k0,y0)::_,(k1,u0)::_,0,k,x,.cons h t,e=>by simp_all
 |_::_,_::_,j+1,k,x,.cons h t,e=>‹zRr t (by assumption)›
section
variable {X:Cx}
def Yg(SC:X.calm=true):sJ X (.builtin "sorted") (λxs H Q=>∃a kvs ys,xs=[.ref a]/\H a>.dK kvs/\JQ (.lst<|kvs.map λq=>UP q.1)>ys/\∀l us,H l=none->(∀K G,EA K G ys us)->Q (.ref l) (upd H l<|.lst us)):=by
 intro pins s σ H xs us Q I r h;let(a,kvs,ys,rfl,hH,e,k):=h;let(u,rfl,ru):=JN r;cases ru;let(hz,lo,vs,kv,dd):=Ti I.hok hH;let(ep,da):=dd.dictAt;dsimp[JQ,US,dA]at e;split at e
 .rename_i hl;rw[lA]at hl;have l1:vs.length=kvs.length:=kv.length.symm;refine zIz (kvs:=vs) lo (I.ok.hd SC) da 01 λh' tk its keep hlen z=>?_
  have I1:=I.kept (t':=tk) keep;have hn:H h'.objs.size=none:=I1.hok.fresh<|wA _
  have J:zl (kvs.map λq=>kV q.1) its:=zJx (by rw[lA];omega) λj u eu=>by
   let(kk,xx,e1,O):=z j u eu;let(y,e3):=zRr kv e1;refine#[kV kk,by rw[MA,e3];rfl,zTZ ?_];show O
  rw[zTa]at J
  have fin:∀{out:Array F3}{vs':L V},zl vs' out.toList->(∀K G,EA K G ys vs')->vs'.length<=sizeLine->EP X pins σ Q (.ref h'.objs.size) { s with heap:=sortedHeap (h'.push<|seqObj "list" its.toArray 0) h'.objs.size its out,toks:=tk }:=λ{out vs'} h1 h2 h3=>by
   let(e',he):=sortedHeap_at (a:=h'.objs.size) (vs:=its) (n:=0) (out:=out)<|rA _ rfl;refine#[.ref h'.objs.size,upd H h'.objs.size<|.lst vs',I1.laid (t':=tk) (λb ob eb=>?_) (wA _) #[h3,out.toList,e',h1,?_],rfl,k _ _ hn h2]
   .have blt:=CA eb;rw[Uy (GA blt)<|BA blt (by rw[MD];show YC _)];show jA _ eb
   .rw[he]
  split at e
  .rename_i is hi;cases e;have e1:=Od hi;rw[e1,UA]at J;refine K0 (list_sort_tree (n:=0) (rA _ rfl) (Zr (ns:=is) J) 01 λout Ka a1 a2 a3=>#[_,rfl,?_]) (λ_ _ x=>x) λ_ _ x=>x
   have U:=Yf _ _ (a2.trans (X5 is).symm) a3<|Pe is;subst U;refine fin (Nj a1) (λK G=>EA.ints _) ?_;have:=(X5 is).length_eq;have:=congrArg xF e1;dsimp[lA]at this ⊢;show GS 01
  .rename_i hi;let(ss,O,rfl):=bA.mp e;have e1:=G6 O;rw[e1,UA]at J;refine K0 (Yi (n:=0) (rA _ rfl) (Y5 (ss:=ss) J) 01 λout Ka a1 a2 a3=>#[_,rfl,?_]) (λ_ _ x=>x) λ_ _ x=>x
   have U:=Mo _ _ (a2.trans (qe ss).symm) (Ni a3)<|Cm ss;subst U;refine fin (Bo a1) (λK G=>EA.strs _) ?_;have:=(qe ss).length_eq;have:=congrArg xF e1;dsimp[lA]at this ⊢;show GS 01
 .cases e
variable {e:Expr}{x:Str}{p1 pos:Pos}
def Tr(i:Nat):=(λρ=>(gM ρ i).bind λkvs=>JQ<|.lst<|Fc kvs:FD)
def zPo(i:Nat)(SC:X.calm=true)(Y:Gl X "sorted")(hm:X.mg "sorted" = none)(ho:PE X e (qk i))
  (hs:wF X e []) (O:aG X pos []):SF X (.Call (.Name "sorted" p1) [e] [] pos) (Tr i):=
 lF (FS (Yg SC) Y hm Cn (zP ho zZ hs) 02 02 hs O) λσ H Q=>by
  rintro⟨G,ρ,ys,s,er,U,k⟩;let(kvs,e1,J):=aA.mp U;let(a,ws,q1,q2,q3,q4):=er.dic i _<|Tq e1;refine#[_,q1,a,ws,ys,rfl,q3,?_,λl us hl r=>?_]
  .rw[<- J]
   have z:(ws.map λq=>UP q.1)=Fc kvs:=by
    have:=congrArg (xO UP) q4.1;rw[UA,UA]at this;show this.symm
   rw[z]
  .show k l us G _ (zM.newH s hl) hl (s.free hl) HA<|r _ _
end
noncomputable def Lz:D->String
 |.non=>"NoneType" | .bl _=>"bool" | .int _=>"int" | .str _=>"str" | .tup _=>"tuple" | .lst _=>"list"
def bW(T:String)(d:D):=(Lz d==T || (Lz d == "bool" && T == "int"):Bool)
def o8(T:String)(d:D):=(some<|.bl<|bW T d:Op D)
noncomputable def pS(T:String):Bool:=T == "tuple" || T == "int" || T == "bool" || T == "str" || T == "list"
def zXJ{K:Fg}{T:String}(J:pS T=true)(d:D):PySem.W.kitOne K (.type<|Lz d) (.type T)>bW T d:=by
 have z:=by simpa[pS,or_assoc] using J
 rcases z with rfl|rfl|rfl|rfl|rfl<;>cases d<;>first|rfl|kernel_rfl
section
variable {X:Cx}{a:Expr}{f:TB}{p1 p2 pos:Pos}
def zPp{T:String}(O:pS T=true):sJ X (.builtin "isinstance") (λxs H Q=>∃G d x,xs=[x,.ty T]/\zO G H/\GG X.K G H d x/\Q (.bl<|bW T d) H):=by
 intro pins s σ H xs us Q I r h;let(G,d,x,rfl,sm,J,q):=h;let(u,U,rfl,r1,r2):=Tg r;cases (r2);have e:=zXJ (K:=X.K) O d;have fin:∀tk,EP X _ σ Q _ _:=λtk=>#[.bl _,H,I.tok tk,rfl,q]
 cases d with
 |non=>have:=J.non;subst this;cases (r1);show AE PySem.W.kitx_none I.kIn True.intro e (λz=>nomatch z) fin
 |bl b=>have:=J.bl;subst this;cases (r1);show AE PySem.W.kitx_bool I.kIn True.intro e (λz=>nomatch z) fin
 |int i=>have:=J.int;subst this;let(t,q):=(r1);cases q;show AE PySem.W.kitx_int I.kIn True.intro e (λz=>nomatch z) fin
 |str i=>have:=J.str;subst this;let(t,q):=(r1);cases q;show AE PySem.W.kitx_str I.kIn True.intro e (λz=>nomatch z) fin
 |tup ys=>
  let(b,vs,rfl,sq,_):=J.tup sm;cases (show u=mB b from r1);let(its,_,(o,h1,h2,_),_):=I.tuple sq
  show AE PySem.W.kitx_tuple I.kIn #[o,h1,h2] e (λz=>nomatch z) fin
 |lst ys=>
  let(b,vs,rfl,sq,_):=J.list sm;cases (show u=mB b from r1);let(its,_,(o,n,h1,h2,_),_):=I.list sq;show AE PySem.W.kitx_list I.kIn #[o,h1,h2] e (λz=>nomatch z) fin
def zXK(hT:pS T=true)(hg:Gl X "isinstance")(hm:X.mg "isinstance" = none)(U:Gl X y)(Y:X.mg y=none)(J:oB y>.type T)(ha:SR X a f)(hnT:y ≠ "__name__")(O:XH y)(hs:wF X a [.Name y p2])(BP:wF X (.Name y p2) [])(eE:aG X pos [.Name y p2]):SE X (.Call (.Name "isinstance" p1) [a,.Name y p2] [] pos) (b1 f<|o8 T):=
 lF (FS (zPp hT) hg hm Av (zP ha (zP (zL8 (v:=.ty T) U Y J rfl hnT O) zZ BP) hs) 02 02 hs eE) λσ H Q=>by
  rintro⟨G,ρ,d,s,er,z,k⟩;let(d1,e1,z):=aA.mp z;cases z;show#[G,ρ,d1,s,er,e1,λv1 G1 H1 t1 r1=>#[G1,d1,v1,rfl,t1.s,r1,k _ G1 H1 t1<|zb.mpr rfl]]
end
noncomputable def wU:L D->Op (L Bool)
 | []=>some []
 |.bl b::r=>(wU r).map (b :: ·)
 |_=>none
def LU:D->Op D
 |.lst xs=>(wU xs).map λbs=>.bl<|bs.all id
 |_=>none
def oZ:D->Op D
 |.lst xs=>(wU xs).map λbs=>.bl<|bs.any id
 |_=>none
theorem Nk:∀{xs:L D}{bs:L Bool},wU xs>bs->xs=bs.map .bl
 | [],bs,h=>by cases h;rfl
 |d::r,bs,h=>by
  cases d with
  |bl b=>
   let(z,e,rfl):=bA.mp h
   rw[kA,<- Nk e]
  |_=>cases h
theorem Nl{K:Fg}{G:Hp}:∀{bs:L Bool}{vs:L V},EA K G (bs.map .bl) vs->vs=bs.map V.bl
 | [],vs,h=>zc.mp h
 |b::bs,vs,h=>by
  let(v,r,rfl,h1,h2):=zL.mp h;rw[zb.mp h1,Nl h2];rfl
theorem Zv:∀{bs:L Bool}{us:L F3},zl (bs.map V.bl) us->us=bs.map OG
 | [],us,r=>by cases r;rfl
 |b::bs,us,r=>by
  cases r with
  |cons r1 r2=>cases (show _=OG b from r1);rw[Zv r2];rfl
def zM3(bs:L Bool):(DA bs.length).all (λi=>bs.getD i false)=bs.all id:=by
 rw[ZG];dsimp[GB,VB];constructor
 .intro h b hb;let(i,hi,rfl):=jE.mp hb;simpa[BG,hi] using h i hi
 .intro h i hi;have:=h bs[i] (MC hi);simpa[BG,hi] using this
def zM4(bs:L Bool):(DA bs.length).any (λi=>bs.getD i false)=bs.any id:=by
 rw[ZG];dsimp[jF,VB];constructor
 .rintro⟨i,hi,h⟩;show#[bs[i],MC hi,by simpa[BG,hi] using h]
 .rintro⟨b,hb,h⟩;let(i,hi,rfl):=jE.mp hb;show#[i,hi,by simpa[BG,hi] using h]
section
variable {X:Cx}
def Zw{pins:IE}{xs:L D}{bs:L Bool}{u:F3}{A:F8}{E:jD}{Q:Bool->F3->F2->Prop}(SC:A.handled=none)(I:Inv X pins σ H s)(sm:zO G H)(r1:GG X.K G H (.lst xs) v)(ru:z9 v u)(e:wU xs>bs)(R:L Bool->Bool)(tr:Nat->Bool)(J:tr=λi=>bs.getD i false)(h:∀(O:Addr)(fp wr:L Addr)(n:Nat)(P:Nat->F3->Prop)(St:Nat->Heap->Prop)(h2:Heap),n=bs.length->Walks X.prog X.w A O fp wr n P St->St 0 h2->TruthOf X.prog X.w A P tr->(∀h' tk,(∀b o,b∉wr->h2.get? b>o->h'.get? b>o)->Inv X pins σ H { s with heap:=h',toks:=tk })->Q true (.ref O) { s with heap:=h2 }):
  F5 (F4 X.prog X.w) A (dq u) (Q true) E s:=by
 have e1:=Nk e;subst e1;let(a,vs,rfl,q,w):=r1.list sm;cases ru;let(its,vv,p,hz):=I.list q;have hv:=Nl w;subst hv;have hu:=Zv vv;subst hu;have hl:=p.isList;have Ib:a<s.heap.objs.size:=by let(_,e,_):=hl;show CA e
 refine YK hl ?_;refine h s.heap.objs.size _ _ _ _ _ _ ?_ (Walks.list SC s.heap.objs.size a (GA Ib) (bs.map OG).toArray) #[#[_,rA _ rfl,rfl,rfl],hl.push _] ?_ ?_
 .simp
 .intro i v s' Q' E' hP hQ
  have:∃b,bs[i]?>b/\v=.bool b:=by
   have U:(bs.map OG)[i]?>v:=by simpa only[List.getElem?_toArray] using hP
   rw[MA]at U;let(b,h1,h2):=bA.mp U;show#[b,h1,h2.symm]
  let(b,hb,rfl):=this;rw[J]at hQ;dsimp[BG,hb,UI]at hQ;show N6 hQ
 .intro h' tk hk;refine I.kept (t':=tk) λb o Y=>hk b o ?_ (jA _ Y)
  intro hm;have:=CA Y;rw[gA.mp hm]at this;show RC _ this
def zM5(SC:X.calm=true):sJ X (.builtin "all") (cR X.K LU):=by
 intro pins s σ H xs us Q I r h;let(G,d1,d,x,rfl,sm,r1,e,k):=h;let(u,rfl,O):=JN r
 cases d1 with
 |lst zs=>
  let(bs,e1,rfl):=bA.mp e;refine call_all_walk ?_;refine Zw (Q:=λ_=>_) (A:=X.A.in1) (I.ok.hd SC) I sm r1 O e1 (λ_=>true) _ rfl λz fp wr n P St h2 hn W st J hk=>?_
  refine#[z,fp,wr,n,P,St,_,rfl,W,st,J,λh' tk hh=>?_];subst hn;rw[zM3]
  show#[.bl _,H,hk h' tk hh,rfl,k _ G H (zM.refl sm)<|zb.mpr rfl]
 |_=>cases e
def zM6(SC:X.calm=true):sJ X (.builtin "any") (cR X.K oZ):=by
 intro pins s σ H xs us Q I r h;let(G,d1,d,x,rfl,sm,r1,e,k):=h;let(u,rfl,O):=JN r
 cases d1 with
 |lst zs=>
  let(bs,e1,rfl):=bA.mp e;refine call_any_walk ?_;refine Zw (Q:=λ_=>_) (A:=X.A.in1) (I.ok.hd SC) I sm r1 O e1 (λ_=>true) _ rfl λz fp wr n P St h2 hn W st J hk=>?_
  refine#[z,fp,wr,n,P,St,_,rfl,W,st,J,λh' tk hh=>?_];subst hn;rw[zM4]
  show#[.bl _,H,hk h' tk hh,rfl,k _ G H (zM.refl sm)<|zb.mpr rfl]
 |_=>cases e
variable {x:Str}{pos:Pos}
end
section
variable {X:Cx}{tg e:Expr}{f:TB}
end
section
variable {X:Cx}
end
def HOk.on{h h':Heap}(x:L2.HOk P w H h)(k:∀b u o,H b>o->h.get? b>u->h'.get? b>u):L2.HOk P w H h':=λa o e=>
 (x a o e).stay (λb u hb q=>by
  rcases hb with rfl|hb
  .show k _ u _ e q
  .show k b u _ hb q) (λ_ q=>q) λ_ _ q=>q
def Zo{h:Heap}(x:qA P w H h a o):∃u,h.get? a>u:=by
 cases o with
 |lst xs=>let(_,_,_,_,e):=x;show#[_,e]
 |tup xs=>let(_,_,_,ob,e,_):=x;show#[_,e]
 |dK kvs=>let(_,_,_,_,ob,_,_,e,_):=x;show#[_,e]
 |dT kvs=>let(_,_,_,_,ob,_,_,e,_):=x;show#[_,e]
 |set S n=>let(ob,_,_,_,e,_):=x;show#[_,e]
 |ins C dx fs=>let(_,_,_,e,_):=x;show#[_,e]
 |own y=>show x
 |xd fs=>let(_,(_,_,_,e,_),_):=x;show#[_,e]
 |rng lo hi=>let(_,_,_,e):=x;show#[_,e]
 |frz ob u=>show#[_,x.1]
 |tbl ps=>show#[_,(x)]
 |met f y=>show#[_,(x)]
 |ext z=>show x.2.1
def eV(l:L Env)(x T:Addr)(cls:F3)(h:Heap):=(∃a0,QG (wC h (x::T::oH l)) l x cls a0 h:Prop)
def zXL{B h:Heap}(f:QG B l x cls a0 h):∃T,eV l x T cls h/\B.get? T=none/\T≠x/\(∃o ts,h.get? T>o/\o.data=.fields ts):=by
 let(f1,f2,Y,oe,vs,T,U,ts,g1,g2,g3,g4,g5,z,J,O,g9):=f;refine#[T,#[a0,λb o e=>KF _ e,DD _ (by simp),?_,oe,vs,T,U,ts,g1,g2,g3,g4,DD _ (by simp),z,J,O,g9],g5,z,U,ts,J,O];show vG Y λenv he a ha=>cA _<|cA _<|aB.mpr #[env,he,ha]
noncomputable def EJ(P:F6)(w:F9):YN:=λouter H s E e s'=>∃x T C H',e=.ref x/\s'.os=s.os/\jG s'.gens/\L2.Un (oH outer) [] H H' s.heap s'.heap/\L2.HOk P w H' s'.heap/\eV outer x T (.ref C) s'.heap /\
 s.heap.get? x=none/\s.heap.get? T=none/\H' x=none/\H' T=none/\E (.ref C) none H'
section
variable {P:F6}{w:F9}{K:Fg}{mg:AF}{base:Heap}{N:L Str}{qual:Str}{scope:oE}{f:Addr}{cd:F3}{A:F8}{outer:L Env}{s₀:F2}{H₀:Hp}{E:XK}
abbrev UE(P:F6)(w:F9)(K:Fg)(mg:AF)(base:Heap)(N:L Str)(qual:Str)(scope:oE)(f:Addr)(cd:F3)(A:F8)(outer:L Env)(s₀:F2)(H₀:Hp)(E:XK):Cx:=sO (EJ P w) P w K mg base N qual scope f cd A outer s₀ H₀ E
def zM7{s:F2}{h':Heap}(I:Inv (UE P w K mg base N qual scope f cd A outer s₀ H₀ E) pins σ H s)(hb:∀b∈bad,b∈oH (N9 qual scope s₀.heap.objs.size f cd::outer)\/(s₀.heap.get? b=none/\H b=none))(Y:QG (wC s.heap bad) outer x (.ref C) a0 h')(x2:∀b∈oH outer,∀o,s.heap.get? b>o->(∀vs,o.data≠.fields vs)->∃sl,h'.get? b>{ o with slots:=sl })(Ji:s₀.heap.get? x=none)(HZ:H x=none)(hE:E (.ref C) none H):
  EJ P w outer H₀ s₀ E (.ref x) { s with heap:=h' }:=by
 let(T,fl,t1,t2,oT,ts,t3,t4):=zXL Y
 have hL:s₀.heap.get? s₀.heap.objs.size=none:=by
  cases q:s₀.heap.get? _ with
  |none=>rfl
  |some o=>show absurd (CA q)<|RC _
 -- a thing of the entry's heap that is bad is a caller's frame
 have ZR:∀b o,s₀.heap.get? b>o->b∈bad->b∈oH _:=λb o e m=>by
  rcases hb b m with q|⟨q,_⟩
  .rcases aB.mp q with⟨env,he,hf⟩
   rcases oA.mp he with rfl|he
   .have z:=KB hf;rw[<- z,hL]at e;cases e
   .show aB.mpr #[env,he,hf]
  .rw[q]at e;cases e
 have stay:=λb o e nb=>Y.1 b o<|ID _ e nb
 have Vu:∀b,b∈oH _->∃o,s.heap.get? b>o/\∀vs,o.data≠.fields vs:=λb m=>by
  let(_,o,ho,hd):=I.stack.mem (aB.mpr (by
   let(env,he,hf):=aB.mp m;show#[env,cA _ he,hf]))
  show#[o,ho,hd]
 have Q5:∀b o,H b>o->b∉bad:=λb o e m=>by
  rcases hb b m with q|⟨_,q⟩
  .have:=I.stkFree b q;rw[this]at e;cases e
  .rw[q]at e;cases e
 have U:s₀.heap.get? T=none:=by
  cases q:s₀.heap.get? T with
  |none=>rfl
  |some o=>
   exfalso;let(o',q'):=I.base.there T o q (by change T∉[];simp);by_cases m:T∈bad
   .let(_,ob,g1,g2):=Y.2.2.1.mem<|ZR T o q m;rw[t3]at g1;cases g1;show g2 _ t4
   .rw[ID _ q' m]at t1;cases t1
 have O:H T=none:=by
  cases q:H T with
  |none=>rfl
  |some o=>
   let(u,hu):=Zo<|I.hok T o q;rw[ID _ hu<|Q5 T o q]at t1;cases t1
 refine#[x,T,C,H,rfl,I.os,I.bare,#[λb o e n nf _=>?_,λb o e n m _=>?_,λb o e n nx=>I.base.free b o e n nx,λb o e _=>?_,I.base.tups,I.base.frzs,I.base.tbls],?_,fl,Ji,U,HZ,O,hE]
 .show stay b o (I.base.keep b o e n nf (by change b∉[];simp)) λm=>nf<|ZR b o e m
 .let(sl,e1):=I.base.slot b o e n m (by change b∉[];simp);let(ob,J,hd):=Vu b m;rw[e1]at J;cases J;let(TX,e3):=x2 b m _ e1 hd;show#[TX,e3]
 .let(o',e1):=I.base.there b o e (by change b∉[];simp);by_cases m:b∈bad
  .let(ob,J,hd):=Vu b<|ZR b o e m;rw[e1]at J;cases J;let(TX,e3):=x2 b (ZR b o e m) _ e1 hd;show#[_,e3]
  .show#[o',stay b o' e1 m]
 .show HOk.on I.hok λb u o e q=>stay b u q<|Q5 b o e
def zRs{s:F2}(I:Inv (UE P w K mg base N qual scope f cd A outer s₀ H₀ E) pins σ H s)(hb:∀b∈bad,b∈oH (N9 qual scope s₀.heap.objs.size f cd::outer)\/(s₀.heap.get? b=none/\H b=none))(U:QG (wC s.heap bad) outer x (.ref C) a0 h')(Y:s.heap.UpToSlots h')(J:s₀.heap.get? x=none)(z:H x=none)(O:E (.ref C) none H):
  EJ P w outer H₀ s₀ E (.ref x) { s with heap:=h' }:=
 zM7 I hb U (λb _=>Y b) J z O
def zTc:IP (EJ P w) (UE P w K mg base N qual scope f cd A outer s₀ H₀ E) E:=by
 intro pins σ H s e s' I h;let(x,T,C,H',rfl,os,bare,un,hok,(a0,fl),nx,nT,hx,U,O):=h;have J:=I.call' os un hok bare λb m=>absurd m (by simp)
 have z:∀b,s.heap.get? b=none->s₀.heap.get? b=none:=λb n=>by
  cases q:s₀.heap.get? b with
  |none=>rfl
  |some o=>
   let(o',q'):=I.base.there b o q (by change b∉[];simp)
   simp_all
 refine wpAny_leaves_onW (J.ok.frames) rfl fl λh' Y x2=>?_
 refine zRs J (λb m=>?_) Y x2 (z x nx) hx O;rcases oA.mp m with rfl|m
 .show .inr #[z _ nx,hx]
 rcases oA.mp m with rfl|m
 .show .inr #[z _ nT,U]
 .show .inl m
def zTd{s:F2}(I:Inv (UE P w K mg base N qual scope f cd A outer s₀ H₀ E) pins σ H s)(m:Heap.MadeExcOf s.heap h' x (.ref C) args)(Y:E (.ref C) none H):(UE P w K mg base N qual scope f cd A outer s₀ H₀ E).xe (.ref x) { s with heap:=h' }:=by
 have U:∀env∈(N9 qual scope s₀.heap.objs.size f cd::outer),∀a,env.frame>a->a∈oH _:=λenv he a ha=>aB.mpr #[env,he,ha]
 have st:=vG I.stack U;refine wpAny_leaves_madeW (I.ok.frames) rfl (λb o e=>KF _ e) st m λVy t x1 _ _ x2=>?_
 have z:s₀.heap.get? x=none:=by
  cases q:s₀.heap.get? x with
  |none=>rfl
  |some o=>
   let(o',q'):=I.base.there x o q (by change x∉[];simp);rw[m.new]at q';cases q'
 have O:H x=none:=by
  cases q:H x with
  |none=>rfl
  |some o=>
   let(u,J):=Zo<|I.hok x o q;rw[m.new]at J;cases J
 show zRs (s:=s) I (λb mb=>.inl mb) x1 ((OY m.keeps).trans x2) z O Y
end
noncomputable abbrev Vj:L F3:=[.type "ValueError",.type "Exception",.type "BaseException",.type "object"]
def OU(K:Fg)(C:Addr):=(DH K C Vj "ValueError.__new__" = true:Prop)
def zM8{K:Fg}(q:OU K C):∃z N nm U bs hdct sn sub ab col dd k0 k1 k2 k3 k5 oN,
  K.lookup C>excClassObj nm U C N bs z hdct sn sub ab col dd k0 k1 k2 k3 k5 "ValueError.__new__"/\K.lookup N>oN/\(∀h,K.In h->h.isNs N=true/\h.nsMap N "__init__" = none/\OwnTail h Vj z):=by
 have q':=q;unfold OU DH at q';split at q'
 .next dd cd sl ho=>
  split at q'
  .next C' z k0 k1 k2 k3 n k5 hm hs=>
   rw[XB,XB,XB,XB,XB]at q';let(((((e1,e2),e3),e4),J),e6):=q';have YJ:=‹e1›
   have EO:=‹e2›
   have Y:=‹e6›
   subst YJ EO
   cases cd with
   |mk nm bs mro ns U hd sn sub ab col del=>
    simp only at hm e3 J Y;have wZ:=‹e3›
    subst hm wZ
    cases sl with
    |mk l=>
     subst hs;have O:=J;unfold PySem.W.nsOkIn at O;split at O
     .next hN=>show#[z,ns,nm,U,bs,hd,sn,sub,ab,col,dd,k0,k1,k2,k3,k5,_,ho,hN,λh X=>#[PySem.W.isNs_of_in X J,PySem.W.nsMap_none_of_in X J Y,PySem.W.tail_of_in X e4]]
     .cases O
  .cases q'
 .cases q'
section
variable {P:F6}{w:F9}{K:Fg}{mg:AF}{base:Heap}{N:L Str}{qual:Str}{scope:oE}{f:Addr}{cd:F3}{A:F8}{outer:L Env}{s₀:F2}{H₀:Hp}{E:XK}
def zPr(hC:OU K C)(hg:Gl (UE P w K mg base N qual scope f cd A outer s₀ H₀ E) x)(hm:mg x>.ref C)(ha:PA (UE P w K mg base N qual scope f cd A outer s₀ H₀ E) [e] t)(hd:XH x)(he:F7 [e] (UE P w K mg base N qual scope f cd A outer s₀ H₀ E).env=(false,eval e (UE P w K mg base N qual scope f cd A outer s₀ H₀ E).env)::F7 [] (UE P w K mg base N qual scope f cd A outer s₀ H₀ E).env)(eE:(N4 gB<|F7 [] (UE P w K mg base N qual scope f cd A outer s₀ H₀ E).env).any (·.1)=false):
  PS (UE P w K mg base N qual scope f cd A outer s₀ H₀ E) (.Raise (some<|.Call (.Name x np) [e] [] gB) none pos) (λ_ σ H=>t σ H λvs H1=>vs.length<=sizeLine/\E (.ref C) none H1):=by
 intro pins s σ H D I h;let(bm,Y,nm,qn,bs,hdct,sn,sub,ab,col,dd,k0,k1,k2,k3,k5,oN,o1,J,U):=zM8 hC;let(o2,o3,o4):=U _ I.kIn;have z:bm.contains (.type "BaseException")=true:=o4.hasType 02;have e1:=PySem.F.excBase_ValueError;refine wpAny_Raise_call_subU (C:=C) (nm:=nm) (q:=qn) (N:=Y) (bs:=bs) (hdct:=hdct) (sn:=sn) (sub:=sub) (ab:=ab) (col:=col) (dd:=dd) (k0:=k0) (k1:=k1) (k2:=k2) (k3:=k3) (k5:=k5) e1 02 e1 z (I.ok.hd rfl) (by rw[he];change(false || (N4 _ _).any _)=false;rfl) o3 ?_;refine ZX I hg hm #[rfl,?_] hd;have O:=ha gB _ s σ H _ I h;rw[he]at O ⊢;refine wH ?_;refine iD O λus s2 zz=>?_
 let(vs,H1,I1,rv,hl,hE):=zz;show#[rfl,by rw[<- rv.length];show hl,I1.kIn _ _ o1,(Heap.Ns.of_isNs o2).at' (λo e=>by rw[I.kIn _ _ J]at e;cases e;show I1.kIn _ _ J),(U _ I1.kIn).2.2,λh' x m=>zTd I1 m hE]
end
inductive TF where
 |o (x:Out)|ex (c:Nat)
def jZ(K:Fg)(κ:Nat->Addr)(W:XK)(G0 H0:Hp)(E:MQ):TF->Prop
 |.o x=>DY K G0 H0 E x
 |.ex c=>∀G H,Bs G0 H0 G H->W (.ref<|κ c) none H
def Xm(K:Fg)(κ:Nat->Addr)(W:XK)(F:XA->Op TF):=(λE σ H=>∃G0 H0 G ρ o,uD K G0 H0 G H ρ σ/\F ρ>o/\jZ K κ W G0 H0 E o:TS)
abbrev SX(X:Cx)(κ:Nat->Addr)(W:XK)(s:Stmt)(F:XA->Op TF):Prop:=PS X s<|Xm X.K κ W F
abbrev fQ(X:Cx)(κ:Nat->Addr)(W:XK)(s:L Stmt)(F:XA->Op TF):Prop:=oK X s<|Xm X.K κ W F
section
variable {X:Cx}{κ:Nat->Addr}{W:XK}{e a b:Expr}{es:L Expr}{f g:TB}{fl:FD}{p:QE}{pos:Pos}{F F':XA->Op TF}{F0:AB}{st:Stmt}{rest:L Stmt}
noncomputable def oX(F:AB):XA->Op TF:=λρ=>(F ρ).map .o
def b5(h:SS X st F0):SX X κ W st (oX F0):=zf h λQ σ H=>by
 rintro⟨G0,H0,G,ρ,o,st,z,k⟩;let(x,e1,rfl):=bA.mp z;show#[G0,H0,G,ρ,x,st,e1,k]
def zXM(h:pK X rest F0):fQ X κ W rest (oX F0):=P7 h λQ σ H=>by
 rintro⟨G0,H0,G,ρ,o,st,z,k⟩;let(x,e1,rfl):=bA.mp z;show#[G0,H0,G,ρ,x,st,e1,k]
noncomputable def xG(F F':XA->Op TF):XA->Op TF:=λρ=>(F ρ).bind λo=>match o with
 |.o (.nx ρ')=>F' ρ'
 |o=>some o
def zTe(h1:SX X κ W st F)(h2:fQ X κ W rest F'):fQ X κ W (st::rest) (xG F F'):=P7 (zJg h1 h2) λQ σ H=>by
 rintro⟨G0,H0,G,ρ,o,st,O,k⟩;let(J,e1,z):=aA.mp O;refine#[G0,H0,G,ρ,J,st,e1,?_]
 cases J with
 |o x=>
  cases x with
  |nx ρ'=>showλU G' H' AC=>#[G0,H0,G',ρ',o,AC,z,k]
  |rt d=>cases z;show k
  |ro d=>cases z;show k
  |rm d ρ=>cases z;show k
  |bk d=>cases z;show k
  |ct d=>cases z;show k
 |ex c=>cases z;show k
def zXN(h1:SX X κ W st F):fQ X κ W [st] F:=Qj h1
noncomputable def KR(c:QE)(F F':XA->Op TF):XA->Op TF:=λρ=>(c ρ).bind λb=>if b=true then F ρ else F' ρ
def Z4(hc:SB X c p)(ha:fQ X κ W A F)(hb:fQ X κ W B F'):SX X κ W (.If c A B pos) (KR p F F'):=zf (Tf hc ha hb) λQ σ H=>by
 rintro⟨G0,H0,G,ρ,o,st,J,k⟩;let(d,e1,z):=aA.mp J;refine#[G,ρ,d,st.bs.gh,st.er,e1,λG' H' t=>?_]
 cases d with
 |true=>show#[G0,H0,G',ρ,o,st.step t,z,k]
 |false=>show#[G0,H0,G',ρ,o,st.step t,z,k]
noncomputable def DZ(g:D->XA->Op XA)(F:XA->Op TF):L D->XA->Op TF
 | [],ρ=>some<|.o<|.nx ρ
 |d::ds,ρ=>(g d ρ).bind λRE=>(F RE).bind λo=>match o with
  |.o (.nx ρ')=>DZ g F ds ρ'
  |.o (.ct ρ')=>DZ g F ds ρ'
  |.o (.bk ρ')=>some<|.o<|.nx ρ'
  |.o (.rt d)=>some<|.o<|.rt d
  |.o (.ro s)=>some<|.o<|.ro s
  |.o (.rm d ρ)=>some<|.o<|.rm d ρ
  |.ex c=>some<|.ex c
noncomputable def jO(c:QE)(F:XA->Op TF):Nat->XA->Op TF
 |0,_=>none
 |n+1,ρ=>(c ρ).bind λb=>if b=true then (F ρ).bind λo=>match o with
   |.o (.nx ρ')=>jO c F n ρ'
   |.o (.ct ρ')=>jO c F n ρ'
   |.o (.bk ρ')=>some<|.o<|.nx ρ'
   |.o (.rt d)=>some<|.o<|.rt d
   |.o (.ro s)=>some<|.o<|.ro s
   |.o (.rm d ρ)=>some<|.o<|.rm d ρ
   |.ex c=>some<|.ex c
  else some (.o<|.nx ρ)
def h7(n:Nat)(p:QE)(F:XA->Op TF):=(λρ=>jO p F n ρ:XA->Op TF)
def zPs(n:Nat)(hp:dh (F4 X.prog X.w) X.A X.env X.xe)(hc:SB X c p)(hb:fQ X κ W body F):SX X κ W (.While c body [] pos) (h7 n p F):=
 zf (zJi hp hc hb) λE σ H=>by
  rintro⟨G0,H0,G,ρ,o,st,ef,k⟩;refine#[λm O H'=>∃G' ρ',uD _ G0 H0 G' H' ρ' O/\jO p F m ρ'>o,#[n,G,ρ,st,ef],?_];rintro m Fv H2 ⟨G2,PU,ZH,II⟩
  cases m with
  |zero=>cases II
  |succ m=>
   let(b,e1,e2):=aA.mp II;refine#[G2,PU,b,ZH.bs.gh,ZH.er,e1,λY H3 t3=>?_]
   cases b with
   |false=>
    cases e2
    show k _ Y H3<|ZH.step t3
   |true=>
    let(o3,e5,z):=aA.mp e2;refine#[λO H'=>∃G' ρ',uD _ G0 H0 G' H' _ _/\jO p F m _>o,λO H' h=>#[m,uE _,h],G0,H0,Y,PU,o3,ZH.step t3,e5,?_]
    cases o3 with
    |o x3=>
     cases x3 with
     |nx ρ'=>showλLR J H5 U=>#[J,ρ',U,z]
     |ct ρ'=>showλLR J H5 U=>#[J,ρ',U,z]
     |bk ρ'=>cases z;show k
     |rt d=>cases z;show k
     |ro d=>cases z;show k
     |rm d ρ=>cases z;show k
    |ex c=>cases z;show k
end
noncomputable def Le(K:Fg)(κ:Nat->Addr)(f:L D->Op (Except Nat D))(n:Nat):Sp:=λvs H Q E=>∃G ds r,zO G H/\EA K G ds vs/\ds.length=n/\f ds>r/\match r with
 |.ok d=>∀v G' H',zM G H G' H'->Rep K G' d v->Q v H'
 |.error c=>∀G' H',zM G H G' H'->E (.ref<|κ c) none H'
noncomputable def aX(N:L Str)(F:XA->Op TF)(ds:L D):Op (Except Nat D):=(F<|ds.map Sl.v++nA (N.length-ds.length) .un).bind λo=>match o with
 |.o (.rt d)=>some<|.ok d
 |.o (.nx _)=>some<|.ok .non
 |.ex c=>some<|.error c
 |_=>none
section
variable {P:F6}{w:F9}{K:Fg}{mg:AF}{base:Heap}{κ:Nat->Addr}
def zRu{x qual:Str}{st:Stmt}{fa:Addr}{fd:K5}{N ps:L Str}{k:Nat}{F:XA->Op TF}{f:L D->Op (Except Nat D)}
  (U:XJ K x qual st fa fd) (S:yA N ps (zH st))
  (SD:∀(J:F3)(A:F8)(outer:L Env)(s:F2)(H:Hp)(E:XK),qB k (A.deeper<|N9 qual (zH st) s.heap.objs.size fa J)->fQ (UE P w K mg base N qual (zH st) fa J A outer s H E) κ E (yI st) F)
  (hf:∀ds r,ds.length=ps.length->f ds>r->aX N F ds>r):PH P w K mg base (EJ P w) (k+1) fa fd ps (Le K κ f ps.length):=by
 let(oc,od,kV,doc,pm,an,J,ct,dO,rfl,lk,Y):=U.ex;refine V7 lk Y S (λvs H Q E h=>?_) λA outer s H vs Q E hr h=>?_
 .let(G,ds,d,_,r,hn,_):=h;rw[<- r.length,hn]
 .let(G,ds,r,sm,rp,hn,ef,O):=h;refine#[_,SD _ A _ s H E hr,?_];let(o,e1,z):=aA.mp<|hf ds r hn ef;have er:=Pd (N:=N) (H:=H) rp;refine#[G,H,G,_,o,#[er,#[sm,zO.refl _,zO.refl _,λb o e n=>by rw[e]at n;cases n],λi u a h1 h2 h3=>?_],e1,?_]
  .exfalso;by_cases hi:i<ds.length
   .rw[NA ‹hi›,MA]at h1
    cases q:ds[i]? with
    |none=>rw[q]at h1;cases h1
    |some d=>rw[q]at h1;cases h1;cases h2
   .rw[eB ‹hi›,DB]at h1;split at h1<;>cases h1;cases h2
  .cases o with
   |o x=>
    cases x with
    |rt d'=>
     cases z
     showλv G' H' b r'=>O v G' H' #[b.gg,b.hh,b.gh,b.fr] r'
    |nx ρ=>
     cases z
     showλZC G' H' AC=>O _ G' H' #[AC.bs.gg,AC.bs.hh,AC.bs.gh,AC.bs.fr]<|FP.mpr rfl
    |bk ρ=>cases z
    |ct ρ=>cases z
    |ro ρ=>cases z
    |rm d ρ=>cases z
   |ex c=>
    cases z
    showλG' H' b=>O G' H' #[b.gg,b.hh,b.gh,b.fr]
end
abbrev bV(P w K mg base κ k x n F):=Df P w K mg base (EJ P w) k x<|Le K κ F n
section
variable {X:Cx}{κ:Nat->Addr}{W:XK}{e:Expr}{es:L Expr}{fl:FD}{pos p gB:Pos}{x y:Str}{k n:Nat}{f:L D->Op (Except Nat D)}
noncomputable def nW(K:Fg)(κ:Nat->Addr)(W:XK)(g:XA->Op (Except Nat D)):TE:=λσ H Q=>∃G ρ r,zO G H/\Er K G H ρ σ/\g ρ>r/\match r with
 |.ok d=>∀v G' H',zM G H G' H'->Rep K G' d v->Q v H'
 |.error c=>∀G' H',zM G H G' H'->W (.ref<|κ c) none H'
def zM9(h:bV X.prog X.w X.K X.mg X.base κ k x n f)(hP:IP (EJ X.prog X.w) X W)(hr:qB k X.A)(hg:X.env.kindOf x>.globalImplicit)(hn:(e::es).length=n)(ha:SA X (e::es) fl)(z:XH x)
  (he:wF X e es) (Y:aG X pos es) :
  PE X (.Call (.Name x p) (e::es) [] pos) (nW X.K κ W λρ=>(fl ρ).bind f):=by
 let(fa,fd,ps,J,hm,hk,hb):=h.ex;refine lF (DW J hr hg hm hk hb .nil hP ha.pa z he Y) λσ H Q zz=>?_
 let(G,ρ,r,s,er,ef,k):=zz;let(xs,e1,U):=aA.mp ef;refine#[G,ρ,xs,s,er,e1,λvs O H1 t1 r1=>?_];change Le _ κ f n _ H1 Q W;rw[WA];refine#[O,xs,r,t1.s,r1,by rw[ha.len _ _ e1,hn],U,?_]
 cases r with
 |ok d=>showλv G' H' t r=>k v G' H' (t1.trans t) r
 |error c=>showλG' H' t=>k G' H'<|t1.trans t
noncomputable def Rz(g:XA->Op (Except Nat D)):XA->Op TF:=λρ=>(g ρ).map λr=>match r with
 |.ok _=>.o<|.nx ρ
 |.error c=>.ex c
def zTg{g:XA->Op (Except Nat D)}(h:PE X e (nW X.K κ W g))(hs:cI X e none pos):SX X κ W (.Expr e pos) (Rz g):=
 zf (qz h hs) λE σ H=>by
  rintro⟨G0,H0,G,ρ,o,st,z,k⟩;let(r,e1,rfl):=bA.mp z;refine#[G,ρ,r,st.bs.gh,st.er,e1,?_]
  cases r with
  |ok d=>showλv G' H' t r=>k σ G' H'<|st.step t
  |error c=>showλG' H' t=>k G' H'<|st.bs.step t
noncomputable def Fe(i:Nat)(g:XA->Op (Except Nat D)):XA->Op TF:=λρ=>(g ρ).map λr=>match r with
 |.ok d=>.o<|.nx<|ρ.set i<|.v d
 |.error c=>.ex c
def zXO(i:Nat){g:XA->Op (Except Nat D)}(h:PE X e (nW X.K κ W g))(J:X.N.Nodup)(hi:X.N[i]?>y)(hx:Loc X.env.scope y)(hs:cI X e (some<|.Name y pos') pos)(hf:aM X y):SX X κ W (.Assign [.Name y pos'] e pos) (Fe i g):=
 zf (GQ J hi hx h hs hf) λE σ H=>by
  rintro⟨G0,H0,G,ρ,o,st,z,k⟩;let(r,e1,rfl):=bA.mp z;refine#[G,ρ,r,st.bs.gh,st.er,e1,?_]
  cases r with
  |ok d=>showλv G' H' t r=>k _ G' H'<|(st.step t).setV r
  |error c=>showλG' H' t=>k G' H'<|st.bs.step t
end
section
variable {P:F6}{w:F9}{K:Fg}{mg:AF}{base:Heap}{N:L Str}{qual:Str}{scope:oE}{fa:Addr}{cd:F3}{A:F8}{outer:L Env}{s₀:F2}{H₀:Hp}{E:XK}{κ:Nat->Addr}
noncomputable def vR(c:Nat)(fl:FD):XA->Op TF:=λρ=>(fl ρ).map λ_=>.ex c
def zPu(c:Nat){fl:FD}(hC:OU K (κ c))(U:Gl (UE P w K mg base N qual scope fa cd A outer s₀ H₀ E) x)(hm:mg x>(.ref<|κ c))(ha:SA (UE P w K mg base N qual scope fa cd A outer s₀ H₀ E) [e] fl)(hd:XH x)(he:F7 [e] (UE P w K mg base N qual scope fa cd A outer s₀ H₀ E).env=(false,eval e (UE P w K mg base N qual scope fa cd A outer s₀ H₀ E).env)::F7 [] (UE P w K mg base N qual scope fa cd A outer s₀ H₀ E).env)(J:(N4 gB<|F7 [] (UE P w K mg base N qual scope fa cd A outer s₀ H₀ E).env).any (·.1)=false):
  SX (UE P w K mg base N qual scope fa cd A outer s₀ H₀ E) κ E (.Raise (some<|.Call (.Name x np) [e] [] gB) none pos) (vR c fl):=
 zf (zPr hC U hm ha.pa hd he J) λQ σ H=>by
  rintro⟨G0,H0,G,ρ,o,st,O,k⟩;let(xs,e1,rfl):=bA.mp O;refine#[G,ρ,xs,st.bs.gh,st.er,e1,λvs z H1 t1 r1=>#[?_,k z H1<|st.bs.step t1]];rw[<- r1.length,ha.len _ _ e1];show GS (by simp)
end
section
variable {X:Cx}{e:Expr}{f:TB}{pos p1 p2 p3:Pos}{j1 j3}
noncomputable def OT(a b:Str):D->Op D
 |.int i=>if 0<=i/\i<1000000/\(oF++a++((toString i:String):Str)++b).length<=1000000 then some (.str<|oF++a++((toString i:String):Str)++b) else none
 |_=>none
def wj{i:Int}(h0:0<=i)(h1:i<1000000):i.natAbs.log2<1920:=by
 by_cases z:i.natAbs=0
 .rw[z];decide
 .have h2:i.natAbs<2 ^ 20:=01
  have h3:=(Nat.log2_lt z).mpr h2;omega
def app_len(a b:Str):(a++b).length=a.length+b.length:=by
 change(UL a b).length=_;simp[UL,lE]
def zTh(ha:SR X e f):SE X (.JoinedStr [.Constant (.str a) j1 p1,.FormattedValue e (-1) none p2,.Constant (.str b) j3 p3] pos) (b1 f<|OT a b):=by
 intro pins s σ H Q I h;let(G,ρ,d,sm,er,z,k):=h;let(d1,e1,z):=aA.mp z
 cases d1 with
 |int i=>
  dsimp[OT]at z;split at z
  .rename_i hc;let(h0,h1,h2):=hc;cases z;rw[app_len,app_len,app_len]at h2;refine Uq (bh<|UF #[by rw[app_len,K7];omega,?_]);refine bh (FormattedValue_plain<|iD (ha pins _ σ H (λv H'=>∃G',zM G H G' H'/\GG X.K G' H' (.int i) v) (I.tok _) #[G,ρ,_,sm,er,e1,λv G' H' t r=>#[G',t,r]]) λv s2 zz=>?_);let(x,H1,I1,J,G',t1,r1):=zz;have hx:=r1.int;subst hx;let(tk,rfl):=(J)
   refine formatField_int_small (wj h0 h1) #[by rw[app_len,app_len,K7];omega,?_];refine bh (UF #[by rw[app_len,app_len,app_len,K7];omega,joinParts_nil ?_ (by rw[app_len,app_len,app_len,K7];omega)]);show#[.str _,H1,I1.tok _,#[_,rfl],k _ G' H1 t1<|qC.mpr rfl]
  .cases z
 |_=>cases z
end
structure MP(X:Cx)(pins:IE)(H:Hp)(x:Addr):Prop where
 h0:X.s₀.heap.get? x=none
 hH:H x=none
 hL:x≠X.env.locals
 hC:∀y c,X.env.cells.lookup y>c->c≠x
 hp:∀p∈X.pn++pins,p.1≠x
section
variable {X:Cx}{pins:IE}{σ:L2.St}{H H':Hp}{s s':F2}
def Ff(I:Inv X pins σ H s)(J:X.ex=[])(n:s.heap.get? x=none)(hH:H' x=none):MP X pins H' x:=by
 refine#[?_,hH,λz=>?_,λy c e z=>?_,λp hp z=>?_]
 .cases q:X.s₀.heap.get? x with
  |none=>rfl
  |some o=>
   let(o',q'):=I.base.there x o q (by simp_all)
   simp_all
 .let(m,(o,_,_,O,_),_):=I.loc
  simp_all
 .let(v,o,O,_):=I.cell y c e
  simp_all
 .have:=(I.pin p hp).1
  simp_all
def Dp(I:Inv X pins σ H s)(nx:MP X pins H x)(nT:MP X pins H T)(st:RG (wC s.heap (x::T::oH X.stack)) h')(up:s.heap.UpToSlots h'):Inv X pins σ H { s with heap:=h' }:=by
 have keep:∀b o,s.heap.get? b>o->b≠x->b≠T->b∉oH X.stack->h'.get? b>o:=λb o e n1 U n3=>st b o (ID _ e<|by simp[n1,U,n3])
 have fr:∀b o,s.heap.get? b>o->b∈oH _->∃sl,h'.get? b>_:=λb o e m=>by
  let(_,ob,Y,hd):=I.stack.mem m;rw[e]at Y;cases Y;show up b o e hd
 have any:=λb o e n1 U=>by
  by_cases m:b∈oH X.stack
  .show fr b o e m
  .show#[o.slots,keep b o e n1 U m]
 refine I.stepN (ch:=[x,T]) (λb hb=>?_) (λb o hL nf O e n=>?_) (λb o _ _ O e n=>?_) (λb o _ e n=>n) (λb o O e=>?_) (λ_ _ e=>e) (λ_ _ _ e=>e) (λb ps e=>#[[].toArray,by rw[e];simp]) (λm hm=>?_) ?_ I.bare
 .have:=‹hb›
  rcases this with rfl|rfl
  .show#[.inr nx.h0,nx.hL,nx.hC,nx.hp]
  .show#[.inr nT.h0,nT.hL,nT.hC,nT.hp]
 .have J:=‹O›
  show keep b o e J.1 J.2 λz=>(oA.mp<|I.stkSub b z).elim hL nf
 .have J:=‹O›
  show any b o e J.1 J.2
 .have J:=‹O›
  let(sl,q):=any b o e J.1 J.2;show#[_,q]
 .show up.ns hm
 .refine HOk.on I.hok λb u o e q=>?_
  refine keep b u q (λz=>?_) (λz=>?_) λz=>?_
  .rw[z,nx.hH]at e;cases e
  .rw[z,nT.hH]at e;cases e
  .rw[I.stkFree b z]at e;cases e
end
section
variable {X:Cx}{κ:Nat->Addr}{e:Expr}{es:L Expr}{fl:FD}{pos p:Pos}{x:Str}{k n:Nat}{f:L D->Op (Except Nat D)}
end
noncomputable abbrev EX(X:Cx)(y:Addr):Cx:={ X with A:=X.A.mark<|some<|.ref y,calm:=false }
def Sa(I:Inv X pins σ H s)(y:Addr):Inv (EX X y) pins σ H s:=
 #[#[I.ok.mod,I.ok.kind,I.ok.glob,I.ok.blt,I.ok.above,I.ok.inj,I.ok.has,I.ok.cab,λz=>(by cases z),I.ok.frames,I.ok.stk,I.ok.exf,I.ok.bs,I.ok.bsz,I.ok.noex,I.ok.exfs,I.ok.funs,I.ok.frf],I.os,I.bare,I.base,I.loc,I.cell,I.free,I.freeC,I.pin,I.hok,I.len]
def Co{X:Cx}(ok:X.Ok)(I:Inv (EX X y) pins σ H s):Inv X pins σ H s:=
 #[ok,I.os,I.bare,I.base,I.loc,I.cell,I.free,I.freeC,I.pin,I.hok,I.len]
def zTi{X:Cx}{pins:IE}{D:MQ}{f:Flow}{s:F2}{y:Addr}(ok:X.Ok)(h:SP (EX X y) pins D f s):SP X pins D f s:=by
 cases f with
 |next=>let(z,H',I,q):=h;show#[z,H',Co ok I,q]
 |brk=>let(z,H',I,q):=h;show#[z,H',Co ok I,q]
 |cont=>let(z,H',I,q):=h;show#[z,H',Co ok I,q]
 |ret u=>let(v,z,H',I,r,q):=h;show#[v,z,H',Co ok I,r,q]
section
variable {X:Cx}{C:Addr}{xc:Str}{np AK:Pos}{wL:Stmt}{eL:L Stmt}{rest:L ExceptHandler}{th:TS}
def zXP(hC:OU X.K C)(hg:Gl X xc)(hm:X.mg xc>.ref C)(U:X.stack=X.env::X.outer)(lR:X.env.frame>X.env.locals){pins:IE}{σ:L2.St}{H:Hp}{s:F2}{y T:Addr}(I:Inv X pins σ H s)(fl:eV X.stack y T (.ref C) s.heap)(ny:MP X pins H y)(nT:MP X pins H T)
  (hb:oK (EX X y).nox (wL::eL) th) {D:MQ} (ht:th D σ H) {E:jD} (hd:XH xc) :
  F5 (F4 X.prog X.w) X.A (bc (.ref y) X.env) (λ_ XG=>F5 (F4 X.prog X.w) X.A (setFlight (.ref y) none) (λ_ iB=>
   F5 (F4 X.prog X.w) X.A (handleBy (.ref y) X.env (.ExceptHandler (some<|.Name xc np) none (wL::eL) AK::rest)) (SP X pins D) E iB) E XG) E s:=by
 let(a0,fl):=fl;rw[U]at fl;have Y:=I.ok.frames;rw[U]at Y;have R4:∀h',RG _ h'->RG (wC s.heap (y::T::oH X.stack)) h':=λh' z=>by rw[U];show z
 refine OM Y lR fl λh4 pQ uW=>?_
 refine wpAny_landsW pQ λh5 O R5=>?_
 have J:=Dp I ny nT (R4 _ O.1)<|uW.trans R5;let(ob,Iu,TV):=O.there;refine YU (codeAny_handlers_test ?_) (by intro q;cases q);refine ZX (Sa J y) hg hm ?_ hd;let(bm,Nn,nm,qn,bs,hdct,sn,sub,ab,col,dd,k0,k1,k2,k3,k5,oN,o1,Kc,uS):=zM8 hC;have o4:=(uS _ J.kIn).2.2;refine wpAny_excMatches_sub_self (J.kIn _ _ o1) Iu TV (o4.hasType<|02)<|codeAny_handlers_suite ?_;refine lands_againW O λh6 o9 Mb=>?_
 have I6:=Dp I ny nT (R4 _ o9.1)<|(uW.trans R5).trans Mb;show K0 (hb _ _ σ H D ((Sa I6 y).wish _) ht) (λfw s2 q=>zTi I.ok<|SP.unwish q) λ_ _ z=>False.elim z
end
section
variable {X:Cx}{κ:Nat->Addr}{e:Expr}{es:L Expr}{fl:FD}{pos p gB jN np AK:Pos}{x xc y:Str}{k n:Nat}{f:L D->Op (Except Nat D)}{wL:Stmt}{eL:L Stmt}{Fh:AB}
end
noncomputable def eM(ρ:XA)(i:Nat):Op Ob:=match ρ[i]? with
 |some (.o _ x)=>some x
 |some (.b _ x)=>some x
 |_=>none
noncomputable def lO(C:Addr)(f:Str):Ob->Op Fl
 |.ins C' fs=>if C'=C then fs.lookup f else none
 |_=>none
def CI(C:Addr)(i:Nat)(f:Str)(ρ:XA):=((eM ρ i).bind<|lO C f:Op Fl)
noncomputable def wV:Fl->Op D
 |.v d=>some d
 |_=>none
noncomputable def ZN:Fl->Op D
 |.v d=>some d
 |.f (.l xs)=>some<|.lst xs
 |_=>none
theorem Bp{z:Type}{f:Str}{x:z}:∀{fs:L (Str×z)},fs.lookup f>x->(f,x)∈fs
 | [],h=>by cases h
 |(g,y)::fs,h=>by
  rw[kB]at h;split at h
  .simp_all
  .show cA _<|Bp h
structure At(K:Fg)(G H:Hp)(x:Ob)(a:Addr):Prop where
 rep:KN K G H x a
 nd:(VD H x a).Nodup
 fr:∀c∈VD H x a,G c=none
section
variable {K:Fg}{G H G' H':Hp}{ρ:XA}{σ:L2.St}{i:Nat}{x:Ob}{a C:Addr}{f:Str}{fl:Fl}
def pU(e:Er K G H ρ σ)(h:eM ρ i>x):∃a,σ[i]?>(some<|.ref a)/\At K G H x a:=by
 unfold eM at h;split at h
 .rename_i c y q;cases h;let(a,h1,h2,h3):=e.slot i _ q rfl;show#[a,h1,h2.1.1,h2.1.2,h3]
 .rename_i c y q;cases h;let(a,h1,h2,h3):=e.slot i _ q rfl;show#[a,h1,h2.1.1,h2.1.2,h3]
 .cases h
def At.step(h:At K G H x a)(t:zM G H G' H'):At K G' H' x a:=by
 have q:=h.rep.same t.g λc m u z=>t.h _ _ z
 refine#[q.1,by rw[q.2];show h.nd,λc m=>?_];rw[q.2]at m;let(u,e):=h.rep.there c m
 cases z:G' c with
 |none=>rfl
 |some o=>show((h.rep.thr c m).not<|t.f c o z<|h.fr c m).elim
def At.fld(h:At K G H x a)(e:lO C f x>fl):∃dx ws u,H a>.ins C dx ws/\ws.lookup f>u/\QP K G H fl u/\∀c∈tH H fl u,G c=none:=by
 cases x with
 |p y=>cases e
 |ins O fs=>
  dsimp[lO]at e;split at e
  .rename_i z;subst z;let(dx,ws,h1,h2,h3,U):=h.rep;let(u,q1,J):=h3 _<|Bp e;refine#[dx,ws,u,h1,q1,J,λc m=>h.fr c ?_];dsimp[VD];rw[h1];show cA _<|cA _<|aY (Bp e) q1 m
  .cases e
end
section
variable {X:Cx}{o:Expr}{pos:Pos}{C:Addr}{f:Str}{i:Nat}
def zXQ(i:Nat)(c:TH X.K C)(n:ye X.K C f)(ho:PE X o (qk i))(hb:HJ X o f):SR X (.Attribute o f pos) (λρ=>(CI C i f ρ).bind ZN):=
 lF (BU ho hb) λσ H Q=>by
  rintro⟨G,ρ,d,s,er,Y,k⟩;let(fl,e1,J):=aA.mp Y;let(x,e3,U):=aA.mp e1;let(a,q1,A):=pU er e3;let(dx,ws,u,w1,w2,O,w4):=A.fld U;refine#[_,q1,a,C,dx,ws,u,rfl,w1,c,n,w2,k u G H (zM.refl s) ?_]
  cases fl with
  |v d'=>cases J;show .fr O
  |f y=>
   cases y with
   |l xs=>
    cases J;let(b,rfl,vs,z1,z2):=O
    show .ow (w4 b<|gA.mpr rfl) z1 z2
   |_=>cases J
def zXR(i:Nat)(c:TH X.K C)(n:ye X.K C f)(U:PE X o (qk i))(hb:HJ X o f):SE X (.Attribute o f pos) (λρ=>(CI C i f ρ).bind wV):=
 lF (BU U hb) λσ H Q=>by
  rintro⟨G,ρ,d,s,er,O,k⟩;let(fl,e1,z):=aA.mp O;let(x,e3,J):=aA.mp e1;let(a,q1,A):=pU er e3;let(dx,ws,u,w1,Y,w3,w4):=A.fld J;refine#[_,q1,a,C,dx,ws,u,rfl,w1,c,n,Y,k u G H (zM.refl s) ?_]
  cases fl with
  |v d'=>cases z;show w3
  |f y=>cases z
end
def Lb(K:Fg)(f:Ob->L D->Op D)(n:Nat):=(λvs H Q _=>∃G x a ds ws d,vs=.ref a::ws/\zO G H/\At K G H x a/\EA K G ds ws/\ds.length+1=n/\f x ds>d/\∀v G' H',zM G H G' H'->Rep K G' d v->Q v H':Sp)
noncomputable def dP(N:L Str)(F:AB)(a:Addr)(x:Ob)(ds:L D):Op D:=(F<|(.b a x::ds.map Sl.v)++nA (N.length-(ds.length+1)) .un).bind λo=>match o with
 |.rt d=>some d
 |.nx _=>some .non
 |_=>none
def i7{K:Fg}{G H:Hp}{w:Sl}{a:Addr}{ds:L D}{vs:L V}(hw:w.isObj=true)(hr:gK K G H w a)(hf:∀c∈ED H w a,G c=none)(r:EA K G ds vs):Er K G H (w::ds.map Sl.v) ((V.ref a::vs).map some):=by
 have low:∀{i:Nat}{s:Sl},(w::ds.map Sl.v)[i]?>s->s.isObj=true->i=0/\s=w:=λ{i s} h o=>by
  cases i with
  |zero=>simp at h;show#[rfl,h.symm]
  |succ i=>
   dsimp[NB,MA]at h
   cases q:ds[i]? with
   |none=>rw[q]at h;cases h
   |some d=>rw[q]at h;cases h;cases o
 refine#[by simp[r.length],λi d h=>?_,λi s h o=>?_,λi j s t b c ne h1 J h2 O=>?_]
 .cases i with
  |zero=>simp at h;subst h;cases hw
  |succ i=>
   dsimp[NB,MA]at h
   cases q:ds[i]? with
   |none=>rw[q]at h;cases h
   |some d'=>
    rw[q]at h;cases h;let(v,e1,z):=r.get q;show#[v,by simp[e1],z]
 .let(rfl,rfl):=low h o;show#[a,rfl,hr,hf]
 .show absurd ((low h1<|Sl.obj_of_own J).1.trans (low h2 O).1.symm) ne
def sU{N:L Str}{vs:L V}:L2.dM N vs=vs.map some++nA (N.length-vs.length) none:=by
 rfl
def JW{P:F6}{w:F9}{K:Fg}{mg:AF}{base:Heap}{x qual:Str}{st:Stmt}{fa:Addr}{fd:K5}{N ps:L Str}{k:Nat}{F:AB}{f:Ob->L D->Op D}
  (FF:XJ K x qual st fa fd) (S:yA N ps (zH st))
  (SD:∀(O:F3)(A:F8)(outer:L Env)(s:F2)(H:Hp),qB k (A.deeper<|N9 qual (zH st) s.heap.objs.size fa O)->pK (sO SH P w K mg base N qual (zH st) fa O A outer s H E0).nox (yI st) F)
  (hf:∀a y ds d,ds.length+1=ps.length->f y ds>d->dP N F a y ds>d):PH P w K mg base SH (k+1) fa fd ps (Lb K f ps.length):=by
 refine FF.ok S (λvs H Q E h=>?_) (λO A outer s H vs Q E hr h=>?_)
 .let(G,y,a,ds,ws,d,rfl,_,_,r,hn,_):=h;rw[sA,<- r.length,hn]
 .let(G,y,a,ds,ws,d,rfl,sm,U,r,hn,ef,Y):=h;have h1:=SD O A outer s H hr;refine#[_,h1,?_];let(o,e1,J):=aA.mp<|hf a y ds d hn ef;have PM:Er K G H (.b a y::ds.map Sl.v) _:=i7 rfl #[#[U.rep,U.nd],rfl] U.fr r;have er:=PM.app (N.length-(ds.length+1)) (nA (N.length-(ds.length+1)) none) (by simp)
  have er:Er K G H ((.b a y::ds.map Sl.v)++nA (N.length-(ds.length+1)) .un) (L2.dM N (.ref a::ws)):=by
   rw[sU,sA,<- r.length];show er
  have xQ:∀(i:Nat)(u:Sl),((.b a y::ds.map Sl.v)++nA (N.length-(ds.length+1)) Sl.un)[i]?>u->u.isOwn=true->False:=λi u h1 h2=>by
   have hm:=xA h1;rcases pA.mp hm with m|m
   .rcases oA.mp m with z|m
    .subst z;cases h2
    .let(d',_,rfl):=QA.mp m;cases h2
   .rw[(NC.mp m).2]at h2;cases h2
  refine#[G,H,G,_,o,#[er,#[sm,zO.refl _,zO.refl _,λb o e n=>by rw[e]at n;cases n],λi u b h1 h2 h3=>(xQ i u h1 h2).elim],e1,?_]
  cases o with
  |rt d'=>
   cases J
   showλv G' H' b r'=>Y v G' H' #[b.gg,b.hh,b.gh,b.fr] r'
  |nx ρ=>
   cases J
   showλZC G' H' AC=>Y .non G' H' #[AC.bs.gg,AC.bs.hh,AC.bs.gh,AC.bs.fr]<|FP.mpr rfl
  |bk ρ=>cases J
  |ct ρ=>cases J
  |ro ρ=>cases J
  |rm d ρ=>cases J
abbrev WS(P w K mg base C k m n F):=Mt P w K mg base SH C k m<|Lb K F n
noncomputable def fK(C:Addr)(m:Str):Ob->Bool
 |.ins C' fs=>decide (C'=C)&&(fs.lookup m).isNone
 |_=>false
def yr(C:Addr)(m:Str)(i:Nat)(fl:FD)(F:Ob->L D->Op D):=(λρ=>(eM ρ i).bind λx=>if fK C m x=true then (fl ρ).bind λds=>F x ds else none:TB)
section
variable {X:Cx}{o e:Expr}{es:L Expr}{pos apos:Pos}{C:Addr}{m:Str}{i k n:Nat}{F:Ob->L D->Op D}{fl:FD}
def eY{K:Fg}{G H:Hp}{x:Ob}{a:Addr}(h:At K G H x a)(e:fK C m x=true):∃dx ws,H a>.ins C dx ws/\ws.lookup m=none:=by
 cases x with
 |p y=>cases e
 |ins J fs=>
  dsimp[fK,XB,decide_eq_true_eq,PK]at e;obtain⟨rfl,e⟩:=e;obtain⟨dx,ws,h1,_,_,z⟩:=h.rep;show#[dx,ws,h1,z.1 m e]
def zTj{pl:Sem Bool}(i:Nat)(h:WS X.prog X.w X.K X.mg X.base C k m n F)(c:TH X.K C)(hr:qB k X.A)(ho:PE X o (qk i))(ha:SA X (e::es) fl)(hn:(e::es).length+1=n)
  (wI:wF X e es) (Y:aG X pos es)
  (ht:eval (.Call (.Attribute o m apos) (e::es) [] pos) X.env=(do
   let ov <- eval o X.env
   T9 apos.atName
   let (f,first) <- K8 [ov] (T7 ov m pl)
   au pos f first (N4 pos<|F7 (e::es) X.env) (T5 pos<|N0 [] X.env))) :
  SE X (.Call (.Attribute o m apos) (e::es) [] pos) (yr C m i fl F):=by
 let(f,fd,ps,O,hm,hb):=h.ex;refine lF (Dm ho c hm O hr hb .nil FR ha.pa wI Y ht) λσ H Q zz=>?_
 let(G,ρ,d,s,er,z,kk):=zz;let(x,e1,z):=aA.mp z;split at z
 .rename_i hx;let(ds,J,e3):=aA.mp z;let(a,q1,A):=pU er e1;let(dx,ws,q2,q3):=eY A hx;refine#[_,q1,a,dx,ws,rfl,q2,q3,G,ρ,ds,s,er,J,λvs G' H' t r=>?_];change Lb _ F n _ H' Q E0;rw[WA];show#[G',x,a,ds,vs,d,rfl,t.s,A.step t,r,by rw[ha.len _ _ J];show hn,e3,λv U H2 t2 r2=>kk v U H2 (t.trans t2) r2]
 .cases z
def zPx{pl:Sem Bool}(i:Nat)(h:WS X.prog X.w X.K X.mg X.base C k m 1 F)(c:TH X.K C)(hr:qB k X.A)(O:PE X o (qk i))
  (U:eval (.Call (.Attribute o m apos) [] [] pos) X.env=(do
   let ov <- eval o X.env
   T9 apos.atName
   let (f,first) <- K8 [ov] (T7 ov m pl)
   au pos f first (N4 pos<|F7 [] X.env) (T5 pos<|N0 [] X.env))) :
  SE X (.Call (.Attribute o m apos) [] [] pos) (yr C m i zE F):=by
 let(f,fd,ps,J,hm,hb):=h.ex;refine lF (zPJ O c hm J hr hb .nil FR U) λσ H Q zz=>?_
 let(G,ρ,d,s,er,z,Y):=zz;let(x,e1,z):=aA.mp z;split at z
 .rename_i hx;let(a,q1,A):=pU er e1;let(dx,ws,q2,q3):=eY A hx;show#[_,q1,a,dx,ws,rfl,q2,q3,G,x,a,[],[],d,rfl,s,A,EA.nil,rfl,z,Y]
 .cases z
end
noncomputable def tJ(f:Str)(v:Fl):L (Str×Fl)->L (Str×Fl)
 | []=>[]
 |(g,y)::r=>if g==f then (g,v)::r else (g,y)::tJ f v r
theorem Nb:∀{fs:L (Str×Fl)},fs.lookup f>y->∃l1 J,fs=l1++(f,y)::J/\tJ f v fs=l1++(f,v)::J
 | [],h=>by cases h
 |(g,z)::fs,h=>by
  rw[kB]at h;by_cases e:g=f
  .subst e;rw[beq_self_eq_true]at h;cases h;show#[[],fs,rfl,by simp[tJ]]
  .have e':=beq_eq_false_iff_ne.mpr<|Ne.symm e;have O:=beq_eq_false_iff_ne.mpr e;rw[e']at h;let(l1,J,h1,h2):=Nb (v:=v) h;show#[(g,z)::l1,J,by rw[h1];rfl,by dsimp[tJ,O,h2];rfl]
theorem Zp{z J:Type}:∀{fs:L (Str×z)}{gs:L (Str×J)},fs.map (·.1)=gs.map (·.1)->fs.lookup x=none->gs.lookup x=none
 | [],[],_,_=>rfl
 | [],_::_,h,_=>by cases h
 |_::_,[],h,_=>by cases h
 |(a,p)::fs,(b,q)::gs,h,e=>by
  simp at h;obtain⟨rfl,h⟩:=h;rw[kB]at e ⊢;split at e
  .cases e
  .show Zp h e
def zLR{α:Type}{P S J B:L α}(h:(P++(S++B)).Nodup)(Y:J.Nodup)(k:∀c∈J,c∈S\/(c∉P/\c∉B)):(P++(J++B)).Nodup:=by
 rw[rB]at h ⊢;let(h1,h2,h3):=h;rw[rB]at h2 ⊢;let(h4,O,U):=h2;refine#[h1,#[Y,O,λa ha b hb=>?_],λa ha b hb=>?_]
 .rcases k a ha with q|⟨_,q⟩
  .show U a q b hb
  .intro z;subst z;show q hb
 .rcases pA.mp hb with hb|hb
  .rcases k b hb with q|⟨q,_⟩
   .show h3 a ha b<|HB _ q
   .intro z;simp_all
  .show h3 a ha b<|RA _ hb
def Qe{ws:L (Str×V)}(e:ws.lookup f>u):ZJ H (l1++(f,y)::l2) ws=ZJ H l1 ws++(tH H y u++ZJ H l2 ws):=by
 unfold ZJ;rw[kP,OB,e]
section
variable {K:Fg}{G0 H0 G H H':Hp}{ρ:XA}{σ:L2.St}{i:Nat}{a b C dx:Addr}{c:Op Addr}{f:Str}{fs:L (Str×Fl)}{ws:L (Str×V)}{y y':Fd}
def At.mutF(h:At K G H (.ins C fs) a)(ha:H a>.ins C dx ws)(hl:fs.lookup f>.f y)(hw:ws.lookup f>.ref b)
  (hH:∀p u,p∉BE H y b->H p>u->H' p>u) (hr:NL K G H' y' b) (hn:(BE H' y' b).Nodup) (hf:∀p∈BE H' y' b,(p∈BE H y b\/H p=none)/\G p=none) :
  At K G H' (.ins C<|tJ f (.f y') fs) a/\∀p∈VD H' (.ins C<|tJ f (.f y') fs) a,p∈VD H (.ins C fs) a\/H p=none:=by
 let(l1,l2,e1,e2):=Nb hl;let(Vl,Xt,z1,z2,z3,z4):=h.rep;rw[ha]at z1;cases z1;have U:=h.nd
 have O:VD H (.ins C fs) a=(a::dx::ZJ H l1 ws)++(BE H y b++ZJ H l2 ws):=by
  dsimp[VD];rw[ha];dsimp[IX];rw[e1,Qe hw];rfl
 rw[O]at U;have fr:=h.fr;rw[O]at fr;have thr:=h.rep.there;rw[O]at thr;let(n1,n2,n3):=rB.mp U;let(n4,n5,n6):=rB.mp n2;have Y:=λp m q=>n3 p m p (HB _ q) rfl
 have Kd:=λp m q=>n6 p q p m rfl
 have stay:∀(q:Str×Fl),(q∈l1\/q∈l2)->∃u,ws.lookup q.1>u/\QP K G H' q.2 u/\tH H' q.2 u=tH H q.2 u:=λq m=>by
  let(u,r1,r2):=z3 q (by rw[e1];rcases m with m|m;show HB _ m;show RA _<|cA _ m);refine#[u,r1,r2.same (zO.refl _) λp mp v zz=>hH p v ?_ zz];rcases m with m|m
  .show Y p<|cA _<|cA _<|aY m r1 mp
  .show Kd p<|aY m r1 mp
 have LZ:=hH a _ (Y a<|eA ..) ha;have nQ:=hH dx _ (Y dx<|cA _<|eA ..) z2;have w1:=Pb λq m=>let ⟨u,r1,_,r3⟩:=stay q<|.inl m;#[u,r1,r3]
 have w2:=Pb λq m=>let ⟨u,r1,_,r3⟩:=stay q<|.inr m;#[u,r1,r3]
 have eN:VD H' (.ins C<|tJ f (.f y') fs) a=(a::dx::ZJ H l1 ws)++(BE H' y' b++ZJ H l2 ws):=by
  dsimp[VD];rw[LZ];dsimp[IX];rw[e2,Qe hw,w1,w2];rfl
 have J:fs.map (·.1)=(tJ f (.f y') fs).map (·.1):=by rw[e2,e1];simp
 refine#[#[#[dx,ws,LZ,nQ,λq m=>?_,λx e=>z4.1 x<|Zp J.symm e,by have:=congrArg xF J;simp at this;rw[<- this];show z4.2],?_,λp m=>?_],λp m=>?_]
 .rw[e2]at m;rcases pA.mp m with m|m
  .let(u,r1,r2,_):=stay q<|.inl m;show#[u,r1,r2]
  .rcases oA.mp m with m|m
   .subst m;show#[_,hw,b,rfl,hr]
   .let(u,r1,r2,_):=stay q<|.inr m;show#[u,r1,r2]
 .rw[eN];refine zLR U hn λp m=>?_
  rcases(hf p m).1 with q|q
  .show .inl q
  .refine .inr #[λz=>?_,λz=>?_]
   .let(u,e):=thr p<|HB _ z;rw[q]at e;cases e
   .let(u,e):=thr p<|RA _<|RA _ z;rw[q]at e;cases e
 .rw[eN]at m;rcases pA.mp m with m|m
  .show fr p<|HB _ m
  .rcases pA.mp m with m|m
   .show(hf p m).2
   .show fr p<|RA _<|RA _ m
 .rw[eN]at m;rw[O];rcases pA.mp m with m|m
  .show .inl<|HB _ m
  .rcases pA.mp m with m|m
   .rcases(hf p m).1 with q|q
    .show .inl<|RA _<|HB _ q
    .show .inr q
   .show .inl<|RA _<|RA _ m
def zTk(ha:H a>.ins C dx ws)(hl:fs.lookup f>.f y)(hw:ws.lookup f>.ref b):∀p∈BE H y b,p∈VD H (.ins C fs) a:=λp m=>by
 dsimp[VD];rw[ha];show cA _<|cA _<|aY (Bp hl) hw m
def uD.mutF(s:uD K G0 H0 G H ρ σ)(U:ρ[i]?>(.o c<|.ins C fs))(hl:fs.lookup f>.f y)(O:σ[i]?>(some<|.ref a))(ha:H a>.ins C dx ws)(hw:ws.lookup f>.ref b)
  (Y:zO G H') (hH:∀p u,p∉BE H y b->H p>u->H' p>u) (hr:NL K G H' y' b) (hn:(BE H' y' b).Nodup) (hf:∀p∈BE H' y' b,(p∈BE H y b\/H p=none)/\G p=none) :
  uD K G0 H0 G H' (ρ.set i<|.o c<|.ins C<|tJ f (.f y') fs) σ:=by
 let(a',h1,h2,h3):=s.er.slot i _ U rfl;rw[O]at h1;cases h1;have A:At K G H _ a:=#[h2.1.1,h2.1.2,h3]
 let(J,sub):=A.mutF ha hl hw hH hr hn hf;show s.mutG U rfl rfl O (zO.refl _) Y (λp o e n=>by simp_all) (λp o e n=>hH p o (λz=>n<|zTk ha hl hw p z) e) #[#[J.rep,J.nd],h2.2] λp m=>#[sub p m,J.fr p m]
def uD.fldAt(s:uD K G0 H0 G H ρ σ)(J:ρ[i]?>(.o c<|.ins C fs))(hl:fs.lookup f>.f y):∃a dx ws b,σ[i]?>(some<|.ref a)/\H a>.ins C dx ws/\ws.lookup f>.ref b/\NL K G H y b/\(∀p∈BE H y b,G p=none)/\(BE H y b).Nodup:=by
 let(a,h1,h2,h3):=s.er.slot i _ J rfl;have A:At K G H _ a:=#[h2.1.1,h2.1.2,h3]
 let(dx,ws,u,q1,z,(b,rfl,U),Y):=A.fld<|(if_pos rfl).trans hl;refine#[a,dx,ws,b,h1,q1,z,U,Y,?_];let(l1,O,e1,e2):=Nb (v:=.f y) hl;have nd:=A.nd;dsimp[VD]at nd;rw[q1]at nd;dsimp[IX]at nd;rw[e1,Qe z]at nd;have nd:((a::dx::ZJ H l1 ws)++(BE H y b++ZJ H O ws)).Nodup:=nd;show(rB.mp (rB.mp nd).2.1).1
end
end RD
namespace PySem
def zBi{prog:F6}{w:F9}{K:Type}[DecidableEq K]{knd:HeapKind prog w K}{A:F8}{E:jD}{s:F2}{d a:Addr}{xs:L (K×Addr×F3)}{k:K}{v:F3}{Q:jD}(Y:knd.room A)(O:knd.is s.heap k a)(hm:s.heap.DictOfH knd d xs)
  (h1:∀p,ck xs k>p->Q p.2 { s with toks:=s.toks+knd.draws k })
  (hQ:ck xs k=none->∀h',h'.DictOfH knd d (storedH xs k a v)->EC d s.heap h'->Q v { s with heap:=h',toks:=s.toks+knd.draws k })
  (hsz:xs.length<=sizeLine):F5 (F4 prog w) A (ft d (.ref a) v) Q E s:=by
 let(o,es,ep,z,hc,hd,he,U,hn):=hm;unfold ft
 try with_reducible refine K3 ?_
 refine Ee<|knd.pyHash Y O<|Ee<|wpAny_dictFind_heap Y O z hd he U hn ?_ ?_
 .intro J;have Ir:=not_mem_keys_of_get J
  refine Ee (T3<|Ee<|wpAny_updateDictKeys (hz:=by have e:=ez he;omega) z hd<|F1<|hQ (bw J) _ #[_,_,ep+1,aC _ z<|Obj.isFreed_of_dict<|oP hd _,
   hc.mapDictKeys _,oP hd _,?_,?_,?_]<|lB ..)
  .rw[vT<|bw J];simp[he,fq]
  .rw[vT<|bw J];intro x hx;rcases pA.mp hx with hx|hx
   .show knd.keeps (U x hx) z hd<|lB ..
   .simp at hx;subst hx;show knd.keeps O z hd<|lB ..
  .rw[vT<|bw J];rw[uA,rB];refine#[hn,by simp,?_];intro x hx y hy;simp at hy;subst hy
   showλe=>Ir<|e ▸ hx
 .intro j p hj;refine Ee<|N7 z hd ?_;rw[Uw he j,hj];show Ee<|T3<|F1<|h1 p<|atKey_of_get hn hj
def yw{prog:F6}{w:F9}{K:Type}[DecidableEq K](knd:HeapKind prog w K)(d a:Addr)(hd:(d==BC)=false)(dflt:F3):
  MeetsIn prog w (Builtin.«dict.setdefault» #[[.ref d,.ref a,dflt],[]]) (λA R s=>knd.room A.in1/\∃k xs,knd.is s.heap k a/\s.heap.DictOfH knd d xs/\xs.length<=sizeLine /\
   (∀p,ck xs k>p->R (.ok<|.ret p.2) { s with toks:=s.toks+knd.draws k }) /\
   (ck xs k=none->∀h',h'.DictOfH knd d (storedH xs k a dflt)->EC d s.heap h'->R (.ok<|.ret dflt) { s with heap:=h',toks:=s.toks+knd.draws k })):=
 .of_wp λA R s=>by
  rintro⟨J,k,xs,U,hm,hz,h1,h2⟩;refine Ee ?_;refine Ee<|aw hm.typeIs ?_;refine F1 ?_;change F5 _ _ (if (d==BC)=true then _ else (ft d _ dflt >>= _)) _ _ s;rw[if_neg (by rw[hd];show CB)];show Ee (zBi J U hm (λv hv=>F1 #[_,rfl,h1 v hv]) (λhn h' z O=>F1 #[dflt,rfl,h2 hn h' z O]) hz)
end PySem
namespace RD
open PySem PySem.Spec PyProof.Rows L2
def D3:=(λx vs H Q=>∃a y z,x=.ref a/\vs=[y,z]/\((∃v,QH H a y (some v)/\((∃kvs,H a>.dK kvs)\/∃kvs,H a>.dT kvs)/\Q v H)\/(QH H a y none/\∃H',PP H a y z H'/\Q z H')):V->L V->Hp->VK->Prop)
section
variable {X:Cx}
def Yu(hu:X.A.units+1<K6):dZ X "dict.setdefault" D3:=by
 intro pins s σ H x vs v us Q I rx rv h;obtain⟨a,y,z,rfl,rfl,h⟩:=h;cases rx;obtain⟨u,r,rfl,ru,rr⟩:=rv.two;rcases h with⟨v,g,hm,q⟩|⟨g,H',hp,q⟩
 .rcases hm with⟨FG,em⟩|⟨FG,em⟩
  .rcases g with⟨kvs,k,e,O,l⟩|⟨kvs,k,b,e,O,Y,l⟩
   .subst O;obtain⟨zz,hd,vs,J,dd⟩:=DU I.hok e;have hz:vs.length<=sizeLine:=by rw[<- J.length];show zz
    obtain⟨w',hw,rw'⟩:=DK.some_of (v:=v) (o:=dg vs k) (by rw[l];show J.val k)
    show pF vC dd.typeIs ND (KD _ _ _) (kt_meets_setdefault (zY X.prog X.w) a (MS ru) hd r)
     #[vs,dd,hz,(λv' nS=>by rw[hw]at nS;cases nS;show#[v,H,I.tok _,rw',q]),(λhn=>by rw[hw]at hn;cases hn)]
   .rcases e with e|⟨o,e⟩<;>(rw[em]at e;cases e)
  .rcases g with⟨kvs,k,e,O,l⟩|⟨kvs,k,b,e,O,Y,l⟩
   .rcases e with e|⟨o,e⟩<;>(rw[em]at e;cases e)
   .subst O;cases (show u=mB b from ru);obtain⟨zz,hd,xs,J,dd⟩:=NS I.hok e;have hz:xs.length<=sizeLine:=by rw[<- Paired.length J];show zz
    obtain⟨w',hw,rw'⟩:=DK.some_of (v:=v) (o:=(ck xs k).map (·.2)) (by rw[l];show J.val k);obtain⟨p,hp,S0⟩:=bA.mp hw
    show pF vC dd.typeIs ND (KD _ _ _) (yw (ax<|zY X.prog X.w) a b hd r)
     #[N5 hu,k,xs,IS I.hok Y,dd,hz,(λp' tQ=>by rw[hp]at tQ;cases tQ;show#[v,H,I.tok _,by rw[S0];show rw',q]),(λhn=>by rw[hp]at hn;cases hn)]
 .rcases hp with⟨kvs,k,e,O,l,eH⟩|⟨kvs,k,b,e,O,Y,l,eH⟩
  .subst O eH
   have hv:gG kvs k=none:=by
    rcases g with⟨FG,k',e',U,l'⟩|⟨FG,k',b',e',U,Ha,l'⟩
    .rcases e' with e' | ⟨o,e'⟩
     .rw[e]at e';cases e';have:k=k':=by cases k<;>cases k'<;>simp[kV]at U<;>rw[U]
      subst this;show l'.symm
     .rw[e]at e';cases e'
    .rcases e' with e' | ⟨o,e'⟩<;>(rw[e]at e';cases e')
   obtain⟨zz,hd,vs,J,dd⟩:=Ti I.hok e;have hz:vs.length<=sizeLine:=by rw[<- J.length];show zz
   have hl:(bI kvs k z).length<=sizeLine:=by have:=d6 kvs k z;omega
   have hn:dg vs k=none:=DK.none_of (by rw[<- hv];show J.val k)
   refine pF vC dd.typeIs ND (KD _ _ _) (kt_meets_setdefault (zY X.prog X.w) a (MS ru) hd r)
     #[vs,dd,hz,(λv' nS=>by rw[hn]at nS;cases nS),(λ_ h' gQ hs=>?_)]
   have he:∃q,h'.get? a>q:=let ⟨q,_,_,hq,_⟩:=gQ;#[q,hq];show#[z,_,d7 I (by rw[e];show True.intro) hs he<|zRj hl hd (J.put k rr) gQ,rr,q]
  .subst O eH;cases (show u=mB b from ru)
   have hv:gG kvs k=none:=by
    rcases g with⟨FG,k',e',U,l'⟩|⟨FG,k',b',e',U,Ha,l'⟩
    .rcases e' with e' | ⟨o,e'⟩<;>(rw[e]at e';cases e')
    .cases U;rcases e' with e' | ⟨o,e'⟩
     .rw[e]at e';cases e';rw[Y]at Ha;have:k.map kV=k'.map kV:=by injection Ha with z;injection z
      have:k=k':=zMS this;subst this;show l'.symm
     .rw[e]at e';cases e'
   obtain⟨zz,hd,xs,J,dd⟩:=Tj I.hok e;have hz:xs.length<=sizeLine:=by rw[<- Paired.length J];show zz
   have hl:(bI kvs k z).length<=sizeLine:=by have:=d6 kvs k z;omega
   have hn:ck xs k=none:=by
    have:=DK.none_of (o:=(ck xs k).map (·.2)) (by rw[<- hv];show J.val k);simpa using this
   refine pF vC dd.typeIs ND (KD _ _ _) (yw (ax<|zY X.prog X.w) a b hd r)
     #[N5 hu,k,xs,IS I.hok Y,dd,hz,(λp' tQ=>by rw[hn]at tQ;cases tQ),(λ_ h' gQ hs=>?_)]
   obtain⟨q',es,ep,hq,h2,h3,h4,_,h5⟩:=gQ;refine#[z,_,d7 (ob:=.dT<|bI kvs k z) I (by rw[e];show True.intro) hs #[q',hq] #[hl,hd,_,(J.put k Y rr).keeps λc ys ec=>?_,q',es,ep,hq,h2,h3,h4,h5],rr,q];rw[zD<|Te ec e<|λz=>nomatch z];show ec
end
noncomputable def W7:L D->Op (L kC)
 | []=>some []
 |d::r=>(FK d).bind λk=>(W7 r).map (k :: ·)
def HM:D->Op (L kC)
 |.tup ds=>W7 ds
 |_=>none
theorem wk{K:Fg}{G:Hp}:∀{ds:L D}{ks:L kC}{vs:L V},W7 ds>ks->EA K G ds vs->vs=ks.map kV
 | [],ks,vs,h,r=>by cases h;show zc.mp r
 |d::ds,ks,vs,h,r=>by
  let(k,e1,h):=aA.mp h;let(l,z,rfl):=bA.mp h;let(v,t,rfl,a,b):=zL.mp r;rw[vU e1 a,wk z b];rfl
def qE{K:Fg}{G:Hp}{d:D}{ks:L kC}{v:V}(h:HM d>ks)(r:Rep K G d v):∃b,v=.ref b/\G b>(.tup<|ks.map kV):=by
 cases d with
 |tup ds=>
  let(a,vs,e,q,w):=qm.mp r;rw[wk h w]at q
  show#[a,e,q]
 |_=>cases h
noncomputable def PF{κ:Type}[DecidableEq κ]{α:Type}(kvs:L (κ×α))(k:κ):Op α:=(kvs.find? λkv=>decide<|kv.1=k).map (·.2)
noncomputable def nI{κ:Type}[DecidableEq κ]{α:Type}(k:κ)(x:α):L (κ×α)->L (κ×α)
 | []=>[]
 |q::r=>if q.1=k then (q.1,x)::r else q::nI k x r
theorem wm{κ:Type}[DecidableEq κ]{z:Type}{k:κ}{x:z}:∀(kvs:L (κ×z)),(nI k x kvs).map (·.1)=kvs.map (·.1)
 | []=>rfl
 |q::r=>by
  unfold nI;split
  .rfl
  .simp[wm r]
section
variable {K:Fg}{G H H':Hp}{κ:Type}[DecidableEq κ]
theorem zv.get:∀{kvs:L (κ×L D)}{ws:L (κ×V)},kvs.map (·.1)=ws.map (·.1)->zv K G H (kvs.map (·.2)) (ws.map (·.2))->(PF kvs k=none/\gG ws k=none)\/∃xs b us,PF kvs k>xs/\gG ws k>.ref b/\H b>.lst us/\EA K G xs us/\b∈YG ws
 | [],[],_,_=>.inl #[rfl,rfl]
 | [],_::_,h,_=>by cases h
 |_::_,[],h,_=>by cases h
 |(k1,x)::kvs,(k2,w)::ws,h,r=>by
  simp at h;obtain⟨rfl,h⟩:=h;obtain⟨b,us,t,e,O,r1,r2⟩:=r;cases e;by_cases hk:k1=k
  .right
   refine#[x,b,us,?_,?_,O,r1,zm.mpr<|eA ..]
   .simp[PF,hk]
   .simp[gG,hk]
  .rcases zv.get h r2 with⟨q1,z⟩|⟨xs,b',J,q1,z,U,Y,q5⟩
   .left
    constructor
    .simpa[PF,hk] using q1
    .simpa[gG,hk] using z
   .right
    refine#[xs,b',J,?_,?_,U,Y,zm.mpr<|cA _<|zm.mp q5]
    .simpa[PF,hk] using q1
    .simpa[gG,hk] using z
theorem zv.set(hb:H' b>.lst OO)(hr:EA K G PJ OO)(hH:∀p o,p≠b->H p>o->H' p>o):∀{kvs:L (κ×L D)}{ws:L (κ×V)},kvs.map (·.1)=ws.map (·.1)->zv K G H (kvs.map (·.2)) (ws.map (·.2))->(YG ws).Nodup->gG ws k>.ref b->zv K G H' ((nI k PJ kvs).map (·.2)) (ws.map (·.2))
 | [],[],_,_,_,h=>by cases h
 | [],_::_,h,_,_,_=>by cases h
 |_::_,[],h,_,_,_=>by cases h
 |(k1,x)::kvs,(k2,w)::ws,h,r,n,g=>by
  simp at h;obtain⟨rfl,h⟩:=h;simp at r;obtain⟨c,us,t,e,O,r1,r2⟩:=r;cases e;have U:(c::YG ws).Nodup:=n;have hn:=uB.mp U;by_cases hk:k1=k
  .have:=by
    simp[gG,hk]at g;show g
   subst this;have es:nI k PJ ((k1,x)::kvs)=(k1,PJ)::kvs:=by simp[nI,hk]
   rw[es];refine#[c,OO,_,rfl,hb,hr,r2.same (zO.refl _) λp m o z=>hH p o (λq=>?_) z];subst q;show hn.1<|zm.mpr m
  .have g':gG ws k>.ref b:=by simpa[gG,hk] using g
   have es:nI k PJ ((k1,x)::kvs)=(k1,x)::nI k PJ kvs:=by simp[nI,hk]
   rw[es]
   have hc:c≠b:=λq=>by
    subst q;rcases zv.get h r2 with⟨_,J⟩|⟨_,b',_,_,J,_,_,Y⟩
    .rw[g']at J;cases J
    .rw[g']at J;cases J;show hn.1 Y
   show#[c,us,_,rfl,hH c _ hc O,r1,zv.set hb hr hH h r2 hn.2 g']
theorem zv.snoc(hb:H b>.lst us)(hr:EA K G xs us):∀{l:L (L D)}{vs:L V},zv K G H l vs->zv K G H (l++[xs]) (vs++[.ref b])
 | [],_,h=>by subst h;show#[b,us,[],rfl,hb,hr,rfl]
 |x::l,_,h=>by
  let(c,vs',t,rfl,e,r,q):=h;show#[c,vs',_,rfl,e,r,zv.snoc hb hr q]
end
noncomputable def FU(C:Addr)(i:Nat)(f:Str)(ρ:XA):Op (Op Addr×L (Str×Fl)×Fd):=match ρ[i]? with
 |some (.o c<|.ins C' fs)=>if C'=C then (match fs.lookup f with
  |some (.f y)=>some (c,fs,y)
  |_=>none) else none
 |_=>none
def Cp{ρ:XA}{fs:L (Str×Fl)}(h:FU C i f ρ>(c,fs,y)):ρ[i]?>(.o c<|.ins C fs)/\fs.lookup f>.f y:=by
 unfold FU at h;split at h
 .rename_i q;split at h
  .rename_i z;subst z;split at h
   .simp_all
   .cases h
  .cases h
 .cases h
def KQ(C:Addr)(i:Nat)(f:Str)(c:Op Addr)(fs:L (Str×Fl))(y:Fd)(ρ:XA):=(ρ.set i<|.o c<|.ins C<|tJ f (.f y) fs:XA)
section
variable {X:Cx}{o a:Expr}{pos apos gB:Pos}{C:Addr}{f:Str}{fe:TB}
noncomputable def X7(C:Addr)(i:Nat)(f:Str)(fe:TB):AB:=λρ=>(FU C i f ρ).bind λq=>match q.2.2 with
 |.l xs=>if xs.length<1000000 then (fe ρ).map λd=>.nx (KQ C i f q.1 q.2.1 (.l<|xs++[d]) ρ) else none
 |_=>none
def zTl(i:Nat)(c:TH X.K C)(n:ye X.K C f)(ho:PE X o (qk i))(ha:SE X a fe)(hb:HJ X o f)(BD:HJ X (.Attribute o f BF) "append")(GF:aP X gB [a])(CD:FN apos gB)(hs:wF X a [])(wD:aG X gB [])(VH:cI X (.Call (.Attribute (.Attribute o f BF) "append" apos) [a] [] gB) none pos):
  SS X (.Expr (.Call (.Attribute (.Attribute o f BF) "append" apos) [a] [] gB) pos) (X7 C i f fe):=
 zf (qz (UO pB KC LC AW (BU ho hb) (zP ha zZ hs) BD GF CD hs wD) VH) λE σ H=>by
  rintro⟨G0,H0,G,ρ,o,st,J,k⟩;let((c',fs,y),e1,J):=aA.mp J;let(U,hl):=Cp e1
  cases y with
  |l xs=>
   simp only at J;split at J
   .rename_i O;let(d,e2,rfl):=bA.mp J;let(a1,dx,ws,b,q1,Y,q3,(vs,q4,q5),q6,q7):=st.fldAt U hl;refine#[_,q1,a1,C,dx,ws,_,rfl,Y,c,n,q3,.inl #[rfl,vs,vF.of q4],G,ρ,d,st.bs.gh,st.er,e2,λv G' H' t r=>?_];have AC:=st.step t
    have PZ:G' b=none:=by
     let(a2,dx2,xW,b2,w1,w2,w3,_,w6,_):=AC.fldAt U hl;rw[q1]at w1;cases w1;rw[t.h _ _ Y]at w2;cases w2;rw[q3]at w3;cases w3;show w6 b<|gA.mpr rfl
    have Ki:=t.h _ _ q4;refine#[b,vs,v,rfl,rfl,Ki,BA (by rw[<- q5.length];show O)<|02,k σ G' _<|AC.mutF U hl q1 (t.h _ _ Y) q3 (λp x e=>?_) (λp x np e=>?_) #[_,HA,(EA.mono t.g _ _ q5).append<|EA.cons r EA.nil] (by simp[BE]) λp m=>?_]
    .rw[zD (λz=>by rw[z,PZ]at e;cases e)];show t.s _ _ e
    .rw[zD<|λz=>np<|gA.mpr z];show e
    .cases gA.mp m;show#[.inl<|gA.mpr rfl,PZ]
   .cases J
  |_=>cases J
noncomputable def Ts(C:Addr)(i:Nat)(f:Str)(fi fe:TB):AB:=λρ=>(fe ρ).bind λd=>(FU C i f ρ).bind λq=>match q.2.2 with
 |.l xs=>(fi ρ).bind λdi=>match di with
  |.int n=>(WG xs.length n).map λj=>.nx<|KQ C i f q.1 q.2.1 (.l<|xs.set j d) ρ
  |_=>none
 |_=>none
def zTn{fi:TB}(i:Nat)(c:TH X.K C)(n:ye X.K C f)(ho:PE X o (qk i))(hi:SE X ie fi)(ha:SE X a fe)(hb:HJ X o f) (hg:∀v,bj (.Subscript (.Attribute o f BF) ie kE) X.env v=(do
   let ov <- K8 [v] (eval (.Attribute o f BF) X.env)
   let iv <- K8 [v,ov] (eval ie X.env)
   T9 kE
   K8 [v,ov,iv] (fg ov iv v)
   VY [v,ov,iv] [])) (hs:lH [.Subscript (.Attribute o f BF) ie kE] a pos.line X.env=pure false) (hw:kH [.Subscript (.Attribute o f BF) ie kE] a X.env=pure none) (h1:(N3 [.Subscript (.Attribute o f BF) ie kE] X.env).map (·.2)=[bj (.Subscript (.Attribute o f BF) ie kE) X.env]):SS X (.Assign [.Subscript (.Attribute o f BF) ie kE] a pos) (Ts C i f fi fe):=
 zf (Eb ha (Rp (BU ho hb) hi Oy hg) hs hw h1) λE σ H=>by
  rintro⟨G0,H0,G,ρ,o,st,J,k⟩;let(d,e1,J):=aA.mp J;let((c',fs,y),e2,J):=aA.mp J;let(O,hl):=Cp e2
  cases y with
  |l xs=>
   let(di,e3,J):=aA.mp J
   cases di with
   |int m=>
    let(j,e4,rfl):=bA.mp J;refine#[G,ρ,d,st.bs.gh,st.er,e1,λv G1 H1 t1 r1=>?_];let(a1,dx,ws,b,q1,U,Y,_,_,_):=(st.step t1).fldAt O hl;refine#[_,q1,a1,C,dx,ws,_,rfl,U,c,n,Y,G1,ρ,_,t1.s,st.er.step t1,e3,λv2 G2 H2 t2 r2=>?_];have AC:=(st.step t1).step t2;let(a2,dx2,xW,b2,w1,w2,w3,(vs,w4,w5),w6,_):=AC.fldAt O hl;rw[q1]at w1;cases w1;rw[t2.h _ _ U]at w2;cases w2;rw[Y]at w3;cases w3;have PZ:=w6 b<|gA.mpr rfl;refine#[b,vs,m,j,rfl,zV.mp r2,w4,by rw[<- w5.length];show e4,k σ G2 _<|AC.mutF O hl q1 (t2.h _ _ U) Y (λp x e=>?_) (λp x np e=>?_) #[_,HA,w5.set j<|Rep.mono t2.g _ _ r1] (by simp[BE]) λp mm=>?_]
    .rw[zD (λz=>by rw[z,PZ]at e;cases e)];show t2.s _ _ e
    .rw[zD<|λz=>np<|gA.mpr z];show e
    .cases gA.mp mm;show#[.inl<|gA.mpr rfl,PZ]
   |_=>cases J
  |_=>cases J
end
noncomputable def AS(C:Addr)(i:Nat)(f:Str)(fk fd:TB):TB:=λρ=>(CI C i f ρ).bind λfl=>match fl with
 |.f (.tl kvs)=>(fk ρ).bind λkd=>(HM kd).bind λk=>(fd ρ).map λd=>match PF kvs k with
  |some xs=>.lst xs
  |none=>d
 |_=>none
section
variable {X:Cx}{o a ke de:Expr}{pos apos gB BF:Pos}{C:Addr}{f:Str}{fe fk fd:TB}
def zTo(i:Nat)(hu:X.A.units+1<K6)(c:TH X.K C)(n:ye X.K C f)(ho:PE X o (qk i))(hk:SE X ke fk)(hd:SE X de fd)(m:M2 X (.Attribute o f BF) "get" apos ke de gB)(hb:HJ X o f):
  SR X (.Call (.Attribute (.Attribute o f BF) "get" apos) [ke,de] [] gB) (AS C i f fk fd):=
 lF (zPN hu (BU ho hb) hk hd m) λσ H Q=>by
  rintro⟨G,ρ,d,s,er,J,k⟩;let(fl,e1,J):=aA.mp J;let(x,e3,e4):=aA.mp e1;let(a,q1,A):=pU er e3
  cases fl with
  |v d'=>cases J
  |f y=>
   cases y with
   |tl kvs=>
    let(kd,e5,J):=aA.mp J;let(kk,e6,J):=aA.mp J;let(dd,e7,rfl):=bA.mp J;let(dx,ws,u,w1,w2,(b,rfl,vs,O,z2,z3),w4):=A.fld e4;refine#[_,q1,a,C,dx,ws,_,rfl,w1,c,n,w2,b,rfl,.inr #[vs,.inl O],G,ρ,kd,s,er,e5,λv1 G1 H1 t1 r1=>?_];refine#[G1,ρ,dd,t1.s,er.step t1,e7,λv2 G2 H2 t2 r2=>?_];let(kb,rfl,bJ):=qE e6 r1;have tt:=t1.trans t2;have A2:=A.step tt;let(Vl,Xt,u',Xr,Xs,(b',e',vs',Xu,Y,z3'),U):=A2.fld e4;rw[tt.h _ _ w1]at Xr;cases Xr;rw[w2]at Xs;cases Xs;cases e';rw[tt.h _ _ O]at Xu;cases Xu;refine#[gG vs kk,QH.t (tt.h _ _ O)<|t2.h _ _<|t1.s _ _ bJ,?_];rcases zv.get Y z3' with⟨g1,g2⟩|⟨xs,b',us,g1,g2,g3,g4,g5⟩
    .rw[g2];have:=k v2 G2 H2 tt (.fr (by dsimp[g1];show r2));show this
    .rw[g2];refine k _ G2 H2 tt ?_;dsimp[g1];refine .ow (U b' ?_) g3 g4;dsimp[tH,BE];rw[tt.h _ _ O]
     show cA _ g5
   |_=>cases J
end
theorem Zq:∀(fs:L (Str×Fl)),tJ f v (tJ f u fs)=tJ f v fs
 | []=>rfl
 |(g,y)::r=>by
  by_cases e:(g==f)=true
  .simp[tJ,e]
  .simp[tJ,e,Zq r]
theorem Yq:∀{fs:L (Str×Fl)},fs.lookup f>y->(tJ f v fs).lookup f>v
 | [],h=>by cases h
 |(g,z)::r,h=>by
  by_cases e:g=f
  .subst e;simp[tJ]
  .have e1:=beq_eq_false_iff_ne.mpr e;have J:=beq_eq_false_iff_ne.mpr<|Ne.symm e;rw[kB,J]at h;dsimp[tJ,e1,JB,if_false,kB,J];show Yq h
theorem Pf{κ:Type}[DecidableEq κ]{z:Type}{k:κ}{x y:z}:∀{kvs:L (κ×z)},PF kvs k=none->nI k y (kvs++[(k,x)])=kvs++[(k,y)]
 | [],_=>by simp[nI]
 |q::r,h=>by
  by_cases e:q.1=k
  .simp[PF,e]at h
  .have h':PF r k=none:=by simpa[PF,e] using h
   dsimp[MB,nI,if_neg e,Pf h']
theorem Pg{κ:Type}[DecidableEq κ]{k:κ}{v:V}:∀{kvs:L (κ×V)},gG kvs k=none->gG (kvs++[(k,v)]) k>v
 | [],_=>by simp[gG]
 |q::r,h=>by
  by_cases e:q.1=k
  .simp[gG,e]at h
  .have h':gG r k=none:=by simpa[gG,e] using h
   have:=Pg (v:=v) h';simpa[gG,e] using this
def wn{κ:Type}{ws:L (κ×V)}{k:κ}{p:Addr}:YG (ws++[(k,.ref p)])=YG ws++[p]:=by
 unfold YG;rw[List.filterMap_append];rfl
noncomputable def ZL(K:Fg){κ:Type}(mk:L (κ×V)->HO)(G H:Hp)(b:Addr)(kvs:L (κ×L D))(vs:L (κ×V)):Prop:=
 H b>mk vs/\kvs.map (·.1)=vs.map (·.1)/\zv K G H (kvs.map (·.2)) (vs.map (·.2))/\(b::YG vs).Nodup/\∀p∈b::YG vs,G p=none
noncomputable def cZ(K:Fg){κ:Type}(mk:L (κ×V)->HO)(G H:Hp)(b:Addr)(vs:L (κ×V))(H':Hp)(FG:L (κ×L D))(vs':L (κ×V)):Prop:=
 ZL K mk G H' b FG vs'/\zO G H'/\(∀p x,p∉b::YG vs->H p>x->H' p>x)/\∀q∈b::YG vs',q∈b::YG vs\/H q=none
section
variable {K:Fg}{κ:Type}{mk:L (κ×V)->HO}{G H G' H':Hp}{b b' p:Addr}{kvs:L (κ×L D)}{vs:L (κ×V)}{k:κ}{xs:L D}{us:L V}
def ZL.step(m:ZL K mk G H b kvs vs)(t:zM G H G' H')(n:∀l us,mk l≠.tup us:=by nofun):ZL K mk G' H' b kvs vs:=by
 let(m1,m2,m3,m4,m5):=m;refine#[t.h _ _ m1,m2,m3.same t.g λq _ o z=>t.h _ _ z,m4,λq h=>?_]
 cases e:G' q with
 |none=>rfl
 |some x=>
  have e:=t.f q x e<|m5 q h;unfold Nw at e;rcases oA.mp h with h|h
  .simp_all
  .let(o,z):=m3.there q<|zm.mp h;simp_all
def ZL.new(m:ZL K mk G H b kvs vs)(s:zO G H)(hp:H p=none):cZ K mk G H b vs (upd (upd H p<|.lst []) b<|mk<|vs++[(k,.ref p)]) (kvs++[(k,[])]) (vs++[(k,.ref p)]):=by
 let(m1,m2,m3,m4,m5):=m;have nd:=uB.mp m4;have J:p≠b:=λz=>by rw[z,m1]at hp;cases hp
 have hq:∀{q:Addr}{x:HO},q≠b->H q>x->upd (upd H p<|.lst []) b (mk<|vs++[(k,.ref p)]) q>x:=λn e=>by
  rw[zD n,zD (λz=>by rw[z,hp]at e;cases e)];show e
 have hr:b::YG (vs++[(k,.ref p)])=(b::YG vs)++[p]:=by rw[wn];rfl
 unfold cZ ZL;rw[hr]
 refine#[#[HA,by simp[m2],by rw[uA,uA];show zv.snoc (by rw[zD J,HA]) EA.nil<|m3.same (zO.refl _) λq m o z=>hq (λzz=>nd.1<|zz ▸ zm.mpr m) z,rB.mpr #[m4,by simp,λx hx y hy z=>?_],λq h=>?_],
  λq x e=>hq (λz=>by rw[z,m5 b<|eA ..]at e;cases e)<|s _ _ e,λq x n e=>hq (λz=>n<|z ▸ eA ..) e,λq h=>?_]
 .cases gA.mp hy;subst z;rcases oA.mp hx with z|hx
  .show J z
  .let(o,e):=m3.there _<|zm.mp hx;rw[hp]at e;cases e
 .rcases pA.mp h with h|h
  .show m5 q h
  .cases gA.mp h;show s.free hp
 .rcases pA.mp h with h|h
  .show .inl h
  .cases gA.mp h;show .inr hp
variable [DecidableEq κ]
def ZL.put(m:ZL K mk G H b kvs vs)(s:zO G H)(g:gG vs k>.ref b')(r:EA K G xs us):cZ K mk G H b vs (upd H b'<|.lst us) (nI k xs kvs) vs:=by
 let(m1,m2,m3,m4,m5):=m;have nd:=uB.mp m4
 have J:b'∈YG vs:=by
  rcases zv.get m2 m3 with⟨_,q⟩|⟨_,_,_,_,q,_,_,J⟩<;>rw[g]at q<;>cases q;show J
 have O:=cA b J
 show#[#[(zD λz=>nd.1 (by rw[z];show J)).trans m1,by rw[wm];show m2,zv.set HA r (λq x np e=>(zD np).trans e) m2 m3 nd.2 g,m4,m5],
  λq x e=>(zD λz=>by simp_all).trans<|s _ _ e,λq x np e=>(zD λz=>np (by rw[z];show O)).trans e,λq h=>.inl h]
def ZL.gone(m:ZL K mk G H b kvs vs)(g:PF kvs k=none)(hl:kvs.length<1000000):gG vs k=none/\vs.length<sizeLine:=by
 constructor
 .rcases zv.get m.2.1 m.2.2.1 with⟨_,q⟩|⟨_,_,_,q,_⟩
  .show q
  simp_all
 .have:=congrArg xF m.2.1;simp at this;rw[<- this];show BA hl 02
end
section
variable {K:Fg}{G0 H0 G H H':Hp}{ρ:XA}{σ:L2.St}{i:Nat}{c:Op Addr}{C a dx b:Addr}{f:Str}{fs:L (Str×Fl)}{ws:L (Str×V)}{kvs FG:L (L kC×L D)}{vs vs':L (L kC×V)}
def oY(h:H b>.dT vs):BE H (.tl kvs) b=b::YG vs:=by dsimp[BE];rw[h];rfl
def uD.mlF(s:uD K G0 H0 G H ρ σ)(Y:ρ[i]?>(.o c<|.ins C fs))(hl:fs.lookup f>(.f<|.tl kvs)):∃a dx ws b vs,σ[i]?>(some<|.ref a)/\H a>.ins C dx ws/\ws.lookup f>.ref b/\ZL K .dT G H b kvs vs:=by
 let(a,dx,ws,b,q1,q2,q3,(vs,U,z2,z3),J,O):=s.fldAt Y hl;rw[oY U]at J O;show#[a,dx,ws,b,vs,q1,q2,q3,U,z2,z3,O,J]
def uD.chF(s:uD K G0 H0 G H ρ σ)(Y:ρ[i]?>(.o c<|.ins C fs))(hl:fs.lookup f>(.f<|.tl kvs))(q1:σ[i]?>(some<|.ref a))(q2:H a>.ins C dx ws)(q3:ws.lookup f>.ref b)(m:ZL K .dT G H b kvs vs)(h:cZ K .dT G H b vs H' FG vs'):
  uD K G0 H0 G H' (ρ.set i<|.o c<|.ins C<|tJ f (.f<|.tl FG) fs) σ:=by
 let((J,z2,z3,z4,z5),c2,O,U):=h;show s.mutF Y hl q1 q2 q3 c2 (by rw[oY m.1];show O) #[vs',J,z2,z3] (by rw[oY J];show z4) (by rw[oY m.1,oY J];showλq h=>#[U q h,z5 q h])
end
section
variable {X:Cx}{o a ke:Expr}{pos apos gB BF:Pos}{C:Addr}{f:Str}{fe fk:TB}
noncomputable def pY(C:Addr)(i:Nat)(f:Str)(fk:TB):AB:=λρ=>(FU C i f ρ).bind λq=>match q.2.2 with
 |.tl kvs=>(fk ρ).bind λkd=>(HM kd).bind λk=>match PF kvs k with
  |some (_::xs)=>some<|.nx<|KQ C i f q.1 q.2.1 (.tl<|nI k xs kvs) ρ
  |_=>none
 |_=>none
def zTp{j}(i:Nat)(hu:X.A.units+1<K6)(c:TH X.K C)(n:ye X.K C f)(ho:PE X o (qk i))(hk:SE X ke fk)(U0:yo ke)(hb:HJ X o f)(BD:HJ X (.Subscript (.Attribute o f BF) ke kp) "pop")(GF:aP X gB [iI (.int 0) j ipos])(CD:FN apos gB)(hs:F7 [iI (.int 0) j ipos] X.env=(false,eval (.Constant (.int 0) j ipos) X.env)::F7 [] X.env)(wD:aG X gB [])(VH:cI X (.Call (.Attribute (.Subscript (.Attribute o f BF) ke kp) "pop" apos) [.Constant (.int 0) j ipos] [] gB) none pos):
  SS X (.Expr (.Call (.Attribute (.Subscript (.Attribute o f BF) ke kp) "pop" apos) [.Constant (.int 0) j ipos] [] gB) pos) (pY C i f fk):=
 zf (qz (UO pB MG NG zJp (EW hu (BU ho hb) hk U0) (zP Rm zZ hs) BD GF CD hs wD) VH) λE σ H=>by
  rintro⟨G0,H0,G,ρ,o,st,z,k⟩;let((c',fs,y),e1,z):=aA.mp z;let(O,hl):=Cp e1
  cases y with
  |tl kvs=>
   let(kd,e5,z):=aA.mp z;let(kk,e6,z):=aA.mp z
   cases J:PF _ kk with
   |none=>rw[J]at z;cases z
   |some l=>
    cases l with
    |nil=>rw[J]at z;cases z
    |cons d xs=>
     rw[J]at z;cases z;let(a1,dx,ws,b,vs,q1,Y,q3,m):=st.mlF O hl;refine#[_,q1,a1,C,dx,ws,_,rfl,Y,c,n,q3,G,ρ,kd,st.bs.gh,st.er,e5,λv1 G1 H1 t1 r1=>?_];let(kb,rfl,bJ):=qE e6 r1;have m:=m.step t1;rcases zv.get m.2.1 m.2.2.1 with⟨g1,_⟩|⟨PJ,b',us,g1,g2,g3,g4,_⟩<;>rw[J]at g1<;>cases g1;let(v0,Mc,rfl,r0,rs):=zL.mp g4
     show#[b,.ref b',rfl,by rw[<- g2];show QH.t m.1<|t1.s _ _ bJ,.inl #[rfl,_,vF.of g3],b',v0::Mc,0,0,v0,rfl,rfl,g3,02,02,by simp[YL],rfl,k σ G1 _<|(st.step t1).chF O hl q1 (t1.h _ _ Y) q3 m<|m.put t1.s g2 rs]
  |_=>cases z
noncomputable def rY(C:Addr)(i:Nat)(f:Str)(fk fe:TB):AB:=λρ=>(FU C i f ρ).bind λq=>match q.2.2 with
 |.tl kvs=>(fk ρ).bind λkd=>(HM kd).bind λk=>match PF kvs k with
  |some xs=>if xs.length<1000000 then (fe ρ).map λd=>.nx (KQ C i f q.1 q.2.1 (.tl<|nI k (xs++[d]) kvs) ρ) else none
  |none=>if kvs.length<1000000 then (fe<|KQ C i f q.1 q.2.1 (.tl<|kvs++[(k,[])]) ρ).map λd=>.nx (KQ C i f q.1 q.2.1 (.tl<|kvs++[(k,[d])]) ρ) else none
 |_=>none
def zTq{sp dp Y:Pos}(i:Nat)(hu:X.A.units+1<K6)(c:TH X.K C)(n:ye X.K C f)(ho:PE X o (qk i))(hk:SE X ke fk)(ha:SE X a fe)(hb:HJ X o f)
  (wN:HJ X (.Attribute o f BF) "setdefault")
  (rQ:aP X dp [ke,.List [] Y])
  (AN:FN sp dp) (BN:wF X ke [.List [] Y]) (BP:wF X (.List [] Y) []) (GL:aG X dp [.List [] Y])
  (BD:HJ X (.Call (.Attribute (.Attribute o f BF) "setdefault" sp) [ke,.List [] Y] [] dp) "append")
  (GF:aP X gB [a])
  (CD:FN apos gB) (hs:wF X a []) (wD:aG X gB [])
  (VH:dF (.Call (.Attribute (.Call (.Attribute (.Attribute o f BF) "setdefault" sp) [ke,.List [] Y] [] dp) "append" apos) [a] [] gB) none pos.line X.env=pure false) :
  SS X (.Expr (.Call (.Attribute (.Call (.Attribute (.Attribute o f BF) "setdefault" sp) [ke,.List [] Y] [] dp) "append" apos) [a] [] gB) pos) (rY C i f fk fe):=
 zf (qz (UO pB KC LC AW
     (UO HE vC mJ (Yu hu) (BU ho hb) (zP hk (zP (Ed zZ) zZ BP) BN) wN rQ AN BN GL) (zP ha zZ hs) BD GF CD hs wD) VH) λE σ H=>by
  rintro⟨G0,H0,G,ρ,o,st,J,k⟩;let((c',fs,y),e1,J):=aA.mp J;let(YV,hl):=Cp e1
  cases y with
  |tl kvs=>
   let(kd,e5,J):=aA.mp J;let(kk,e6,J):=aA.mp J;let(a1,dx,ws,b,vs,q1,U,q3,m):=st.mlF YV hl;refine#[_,q1,a1,C,dx,ws,_,rfl,U,c,n,q3,.inr<|.inr<|.inl #[rfl,.inr #[vs,m.1]],G,ρ,kd,st.bs.gh,st.er,e5,λv1 G1 H1 t1 r1=>#[LB _,λp hp=>?_]];let(kb,rfl,bJ):=qE e6 r1;have iO:=st.step t1;have U:=t1.h _ _ U;have m:=m.step t1;have t2:zM G1 H1 G1 (upd H1 p<|.lst []):=zM.newH t1.s hp;have m2:=m.step t2;have bJ:=t2.h _ _<|t1.s _ _ bJ
   cases g0:PF kvs kk with
   |some xs=>
    rw[g0]at J;simp only at J;split at J
    .rename_i O;let(d,e7,rfl):=bA.mp J;rcases zv.get (k:=kk) m2.2.1 m2.2.2.1 with⟨g1,_⟩|⟨PJ,b',us,g1,g2,g3,g4,_⟩<;>rw[g0]at g1<;>cases g1
     show#[b,.ref kb,.ref p,rfl,rfl,.inl #[.ref b',by rw[<- g2];show QH.t m2.1 bJ,.inr #[vs,m2.1],.inl #[rfl,us,vF.of g3],G1,ρ,d,t2.s,(iO.step t2).er,e7,λv G3 H3 t3 r3=>#[b',us,v,rfl,rfl,t3.h _ _ g3,BA (by rw[<- g4.length];show O)<|02,
      k σ G3 _ (((iO.step t2).step t3).chF YV hl q1 (t3.h _ _<|t2.h _ _ U) q3 (m2.step t3)<|(m2.step t3).put t3.s g2<|(EA.mono t3.g _ _ g4).append<|EA.cons r3 EA.nil)]]]
    .cases J
   |none=>
    rw[g0]at J;simp only at J;split at J
    .rename_i O;let(d,e7,rfl):=bA.mp J;let(hv,D0):=m.gone g0 O;have ch:=m.new (k:=kk) t1.s hp;have DP:=iO.chF YV hl q1 U q3 m ch;have eU:upd (upd H1 p<|.lst []) b (.dT<|vs++[(kk,.ref p)]) p>.lst []:=by rw[zD (λz=>by rw[z,m.1]at hp;cases hp),HA]
     have q4:upd (upd H1 p<|.lst []) b (.dT<|vs++[(kk,.ref p)]) a1>.ins C dx ws:=by
      rw[zD (λz=>by rw[z,m.1]at U;cases U),zD (λz=>by rw[z,hp]at U;cases U)];show U
     refine#[b,.ref kb,.ref p,rfl,rfl,.inr #[by rw[<- hv];show QH.t m2.1 bJ,_,PP.t m2.1 bJ D0,?_]];rw[Pa _ hv];refine#[.inl #[rfl,[],vF.of eU],G1,_,d,DP.bs.gh,DP.er,e7,λv G4 H4 t4 r4=>#[p,[],v,rfl,rfl,t4.h _ _ eU,02,?_]];have m4:=ch.1.step t4;have fin:=(DP.step t4).chF (cB (vA.mp YV).1) (Yq hl) q1 (t4.h _ _ q4) q3 m4<|m4.put t4.s (Pg hv)<|EA.cons r4 EA.nil;rw[Pf g0,ZM,Zq]at fin;show k σ G4 _ fin
    .cases J
  |_=>cases J
end
structure Gh(K:Fg)(G H G' H':Hp)(x x':Ob)(a:Addr):Prop where
 g:zO G G'
 gh:zO G' H'
 fr:∀b o,G' b>o->G b=none->Nw H b\/b∈VD H x a
 h:∀b o,H b>o->b∉VD H x a->H' b>o
 at_:At K G' H' x' a
 new:∀c∈VD H' x' a,c∈VD H x a\/H c=none
def Aa(K:Fg)(f:Ob->L D->Op Ob)(n:Nat):=(λvs H Q _=>∃G x a ds ws x',vs=.ref a::ws/\zO G H/\At K G H x a/\EA K G ds ws/\ds.length+1=n/\f x ds>x'/\∀G' H',Gh K G H G' H' x x' a->Q .non H':Sp)
noncomputable def xU(a:Addr)(ρ:XA):Op Ob:=match (ρ[(0:Nat)]?:Op Sl) with
 |some (.o c y)=>if c>a then some y else none
 |_=>none
noncomputable def eW(N:L Str)(F:AB)(a:Addr)(x:Ob)(ds:L D):Op Ob:=(F<|(.o (some a) x::ds.map Sl.v)++nA (N.length-(ds.length+1)) .un).bind λo=>match o with
 |.nx ρ=>xU a ρ
 |_=>none
section
variable {K:Fg}{G H:Hp}{a:Addr}{x:Ob}{ds:L D}{ws:L V}{m:Nat}{τ:L2.St}
def zPy{u:Sl}(h:((Sl.o (some a) x::ds.map Sl.v)++nA m Sl.un)[i]?>u)(o:u.isOwn=true):i=0/\u=.o (some a) x:=by
 cases i with
 |zero=>simp at h;show#[rfl,h.symm]
 |succ i=>
  exfalso
  have hm:=by
   have:((Sl.o (some a) x::ds.map Sl.v)++nA m Sl.un)[i+1]?=(ds.map Sl.v++nA m Sl.un)[i]?:=by simp
   rw[this]at h;show xA h
  rcases pA.mp hm with q|q
  .let(d',_,rfl):=QA.mp q;cases o
  .rw[(NC.mp q).2]at o;cases o
def Zg(z:((V.ref a::ws).map some++τ)[0]?>(some<|.ref a)):(b∈VD H x a->zn H ((Sl.o (some a) x::ds.map Sl.v)++nA m Sl.un) ((V.ref a::ws).map some++τ) b=none) /\
  (b∉VD H x a->zn H ((Sl.o (some a) x::ds.map Sl.v)++nA m Sl.un) ((V.ref a::ws).map some++τ) b=H b):=by
 refine#[λh=>Nh (s:=.o (some a) x) (by simp) rfl z h,λh=>?_];unfold zn;rw[if_neg];rintro⟨i,s,c,h1,h2,h3,J⟩;let(rfl,rfl):=zPy h1 h2;cases h3;show h J
end
def zRv{P:F6}{w:F9}{K:Fg}{mg:AF}{base:Heap}{x qual:Str}{st:Stmt}{fa:Addr}{fd:K5}{N ps:L Str}{k:Nat}{F:AB}{f:Ob->L D->Op Ob}
  (FF:XJ K x qual st fa fd) (S:yA N ps (zH st))
  (SD:∀(U:F3)(A:F8)(outer:L Env)(s:F2)(H:Hp),qB k (A.deeper<|N9 qual (zH st) s.heap.objs.size fa U)->pK (sO SH P w K mg base N qual (zH st) fa U A outer s H E0).nox (yI st) F)
  (hf:∀a y ds y',ds.length+1=ps.length->f y ds>y'->eW N F a y ds>y'):PH P w K mg base SH (k+1) fa fd ps (Aa K f ps.length):=by
 refine FF.ok S (λvs H Q E h=>?_) (λU A outer s H vs Q E hr h=>?_)
 .let(G,y,a,ds,ws,y',rfl,_,_,r,hn,_):=h;rw[sA,<- r.length,hn]
 .let(G,y,a,ds,ws,y',rfl,sm,Y,r,hn,ef,kk):=h;have h1:=SD U A outer s H hr;refine#[_,h1,?_];let(o,e1,J):=aA.mp<|hf a y ds y' hn ef;have PM:Er K G H (.o (some a) y::ds.map Sl.v) _:=i7 rfl #[#[Y.rep,Y.nd],λc' e=>by cases e;rfl] Y.fr r;have er:=PM.app (N.length-(ds.length+1)) (nA (N.length-(ds.length+1)) none) (by simp);have es:L2.dM N (.ref a::ws)=(V.ref a::ws).map some++nA (N.length-(ds.length+1)) none:=by rw[sU,sA,<- r.length]
  have MJ:((V.ref a::ws).map some++nA (N.length-(ds.length+1)) none)[0]?>(some<|.ref a):=by simp
  have no:=λb=>Zg (H:=H) (x:=y) (ds:=ds) (m:=N.length-(ds.length+1)) (b:=b) MJ
  rw[es];refine#[G,zn H _ _,G,_,o,er.toSt sm,e1,?_]
  cases o with
  |nx ρ=>
   have J:xU a ρ>y':=J;unfold xU at J;split at J
   .rename_i c y1 q0;split at J
    .rename_i hc;cases J;subst hc;intro ZC G' H' AC;let(O,g1,g2,g3):=AC.er.slot 0 _ q0 rfl;have:O=a:=g2.2 a rfl;subst this;refine kk G' H' #[AC.bs.gg,AC.bs.gh,λb o e n=>?_,λb o e n=>AC.bs.hh b o (by rw[(no b).2 n];show e),#[g2.1.1,g2.1.2,g3],λc m=>?_]
     .have z:=AC.bs.fr b o e n;unfold Nw at z;by_cases hb:b∈VD H y O
      .show .inr hb
      .rw[(no b).2 hb]at z;show .inl z
     .have z:=AC.ows 0 _ O q0 rfl g1 c m;by_cases hb:c∈VD H y O
      .show .inl hb
      .rw[(no c).2 hb]at z;show .inr z
    .cases J
   .cases J
  |rt d=>cases J
  |bk ρ=>cases J
  |ct ρ=>cases J
  |ro ρ=>cases J
  |rm d ρ=>cases J
abbrev VR(P w K mg base C k m n F):=Mt P w K mg base SH C k m<|Aa K F n
noncomputable def WO(C:Addr)(m:Str)(i:Nat)(fl:FD)(F:Ob->L D->Op Ob):AB:=λρ=>match ρ[i]? with
 |some (.o c x)=>if fK C m x=true then (fl ρ).bind λds=>(F x ds).map λx'=>.nx (ρ.set i<|.o c x') else none
 |_=>none
section
variable {X:Cx}{o e a b:Expr}{es:L Expr}{pos pos' apos p1 p2:Pos}{C:Addr}{m:Str}{i k n:Nat}{F:Ob->L D->Op Ob}{fl:FD}{f g:TB}
def zTr(i:Nat)(h:VR X.prog X.w X.K X.mg X.base C k m n F)(c:TH X.K C)(hr:qB k X.A)(ho:PE X o (qk i))(ha:SA X (e::es) fl)(hn:(e::es).length+1=n)(wI:wF X e es)(eE:aG X pos es)(VH:cI X (.Call (.Attribute o m apos) (e::es) [] pos) none pos') (ht:eval (.Call (.Attribute o m apos) (e::es) [] pos) X.env=(do
   let ov <- eval o X.env
   T9 apos.atName
   let (f,first) <- K8 [ov] (T7 ov m pl)
   au pos f first (N4 pos<|F7 (e::es) X.env) (T5 pos<|N0 [] X.env))) :
  SS X (.Expr (.Call (.Attribute o m apos) (e::es) [] pos) pos') (WO C m i fl F):=by
 let(f,fd,ps,U,hm,hb):=h.ex;refine zf (qz (Dm ho c hm U hr hb .nil FR ha.pa wI eE ht) VH) λE σ H zz=>?_
 let(G0,H0,G,ρ,out,st,z,kk):=zz;unfold WO at z;split at z
 .rename_i c' x O;split at z
  .rename_i hx;let(ds,J,z):=aA.mp z;let(x',e3,rfl):=bA.mp z;let(a,q1,r1,r2):=st.er.slot i _ O rfl;have A:At _ G H x a:=#[r1.1.1,r1.1.2,r2]
   let(dx,ws,q2,q3):=eY A hx;refine#[_,q1,a,dx,ws,rfl,q2,q3,G,ρ,ds,st.bs.gh,st.er,J,λvs Y H1 t r=>?_];change Aa _ F n _ H1 _ E0;rw[WA];refine#[Y,x,a,ds,vs,x',rfl,t.s,A.step t,r,by rw[ha.len _ _ J];show hn,e3,λG2 H2 ch=>?_];have AC:=st.step t;show kk σ G2 H2 (AC.mutG O rfl rfl q1 ch.g ch.gh ch.fr ch.h #[#[ch.at_.rep,ch.at_.nd],r1.2] λp mm=>#[ch.new p mm,ch.at_.fr p mm])
  .cases z
 .cases z
def MT(f g:TB):=(λρ=>(f ρ).bind λx=>(nY x).bind λkvs=>(g ρ).bind λy=>(FK y).bind λk=>VO kvs k:TB)
def zNE(hu:X.A.units+1<K6)(hg:Gl X "dict")(hm:X.mg "dict" = none)(ha:SE X a f)(hb:SE X b g)(SC:X.calm=true)
  (U:wF X a []) (eE:aG X p1 []) (hs:yo b) :
  SE X (.Subscript (.Call (.Name "dict" p2) [a] [] p1) b pos) (MT f g):=
 lF (EW hu (Bz (zLN SC) hg hm zXE (zP (zWX ha) zZ U) 02 02 U eE) hb hs) λσ H Q=>by
  rintro⟨G,ρ,d,sm,er,J,k⟩;let(x,e1,J):=aA.mp J;let(kvs,e2,J):=aA.mp J;let(y,e3,J):=aA.mp J;let(key,e4,O):=aA.mp J;refine#[G,ρ,x,sm,er,e1,λv1 Y H1 t1 r1=>#[Y,x,kvs,v1,rfl,t1.s,r1,e2,λa ws G2 H2 t2 h1 h2 h3 rk=>?_]];have tt:=t1.trans t2;refine#[G2,ρ,y,t2.s,er.step tt,e3,λv3 G3 H3 t3 r3=>?_];have ev:=vU e4 r3;rcases(rk.mono t3.g).get with⟨z,_⟩|⟨d',v,z1,z2,z3⟩
  .rw[z]at O;cases O
  .rw[O]at z1;cases z1;refine#[a,v,rfl,?_,k v G3 H3 (tt.trans t3) z3];rw[ev,<- z2];show QH.k<|t3.h _ _ h3
end
section
variable {X:Cx}{e:Expr}{es:L Expr}{pos p gB:Pos}{fl:FD}
def sY(i:Nat):=(λρ=>(ρ[i]?).bind λs=>if s.isOwn=true then some (.ro s) else none:AB)
def zTs(i:Nat)(he:PE X e (qk i)):SS X (.Return (some e) pos) (sY i):=zf (iY he) λQ σ H=>by
 rintro⟨G0,H0,G,ρ,o,st,z,k⟩;let(s,e1,z):=aA.mp z;split at z
 .rename_i J;cases z;let(a,q1,O,U):=st.er.slot i s e1<|Sl.obj_of_own J;show#[_,q1,k a G H st.bs O λc m=>#[U c m,st.ows i s a e1 J q1 c m]]
 .cases z
end
def kZ(K:Fg)(G' H' H:Hp)(s:Sl)(v:V):=((∃d,s=.v d/\Rep K G' d v)\/(s.isOwn=true/\∃a,v=.ref a/\gK K G' H' s a/\∀c∈ED H' s a,H c=none/\G' c=none):Prop)
def uD.setRet{K:Fg}{G0 H0 G H G' H':Hp}{ρ:XA}{σ:L2.St}{i:Nat}{s:Sl}{v:V}(st:uD K G0 H0 G H ρ σ)(t:zM G H G' H')(r:kZ K G' H' H s v):uD K G0 H0 G' H' (ρ.set i s) (σ.set i<|some v):=by
 rcases r with⟨d,rfl,r⟩|⟨z,a,rfl,r,n⟩
 .show(st.step t).setV r
 .show st.setNew t z r n
def Ld(K:Fg)(f:L D->Op Sl)(n:Nat):=(λvs H Q _=>∃G ds s,zO G H/\EA K G ds vs/\ds.length=n/\f ds>s/\∀v G' H',zM G H G' H'->kZ K G' H' H s v->Q v H':Sp)
def vS:Out->Op Sl
 |.rt d=>some<|.v d
 |.ro s=>if s.isOwn=true then some s else none
 |.nx _=>some<|.v .non
 |_=>none
def v8(N:L Str)(F:AB)(ds:L D):=((F<|ds.map Sl.v++nA (N.length-ds.length) .un).bind vS:Op Sl)
def zNF{N:L Str}{ds:L D}{i:Nat}{u:Sl}(h:(ds.map Sl.v++nA (N.length-ds.length) Sl.un)[i]?>u)(o:u.isOwn=true):False:=by
 rcases pA.mp (xA h) with q|q
 .let(d',_,rfl):=QA.mp q;cases o
 .rw[(NC.mp q).2]at o;cases o
def Sb{P:F6}{w:F9}{K:Fg}{mg:AF}{base:Heap}{x qual:Str}{st:Stmt}{fa:Addr}{fd:K5}{N ps:L Str}{k:Nat}{F:AB}{f:L D->Op Sl}
  (Y:XJ K x qual st fa fd) (S:yA N ps (zH st))
  (SD:∀(J:F3)(A:F8)(outer:L Env)(s:F2)(H:Hp),qB k (A.deeper<|N9 qual (zH st) s.heap.objs.size fa J)->pK (sO SH P w K mg base N qual (zH st) fa J A outer s H E0).nox (yI st) F)
  (hf:∀ds d,ds.length=ps.length->f ds>d->v8 N F ds>d):PH P w K mg base SH (k+1) fa fd ps (Ld K f ps.length):=by
 refine Y.ok S (λvs H Q E h=>?_) (λJ A outer s H vs Q E hr h=>?_)
 .let(G,ds,d,_,r,hn,_):=h;rw[<- r.length,hn]
 .let(G,ds,d,sm,r,hn,ef,O):=h;have h1:=SD _ A outer s H hr;refine#[_,h1,?_];let(o,e1,z):=aA.mp<|hf ds d hn ef;have er:=Pd (N:=N) (H:=H) r;refine#[G,H,G,_,o,#[er,#[sm,zO.refl _,zO.refl _,λb o e n=>by grind],λi u a h1 h2 h3=>(zNF h1 h2).elim],e1,?_]
  cases o with
  |rt d'=>
   cases z
   showλv G' H' b U=>O v G' H' #[b.gg,b.hh,b.gh,b.fr]<|.inl #[_,rfl,U]
  |nx ρ=>
   cases z
   showλZC G' H' AC=>O _ G' H' #[AC.bs.gg,AC.bs.hh,AC.bs.gh,AC.bs.fr]<|.inl #[_,rfl,FP.mpr rfl]
  |ro s'=>
   dsimp[vS]at z;split at z
   .rename_i ho;cases z
    showλa G' H' b U n=>O _ G' H' #[b.gg,b.hh,b.gh,b.fr] (.inr #[ho,a,rfl,U,λc m=>#[(n c m).2,(n c m).1]])
   .cases z
  |bk ρ=>cases z
  |ct ρ=>cases z
  |rm d ρ=>cases z
abbrev UR(P w K mg base k x n F):=Df P w K mg base SH k x<|Ld K F n
section
variable {X:Cx}{e:Expr}{es:L Expr}{pos p gB:Pos}{fl:FD}{k n:Nat}{F:L D->Op Sl}{x y:Str}
noncomputable def HR(i:Nat)(fl:FD)(F:L D->Op Sl):AB:=λρ=>(fl ρ).bind λds=>(F ds).map λs=>.nx<|ρ.set i s
def zTt(i:Nat)(h:UR X.prog X.w X.K X.mg X.base k x n F)(hr:qB k X.A)(hg:X.env.kindOf x>.globalImplicit)(hn:(e::es).length=n)(ha:SA X (e::es) fl)(hN:X.N.Nodup)(hi:X.N[i]?>y)(hy:Loc X.env.scope y)(hs:cI X (.Call (.Name x p) (e::es) [] gB) (some<|.Name y pos') pos)(hf:aM X y)(J:XH x)(he:wF X e es)(eE:aG X gB es):
  SS X (.Assign [.Name y pos'] (.Call (.Name x p) (e::es) [] gB) pos) (HR i fl F):=by
 let(f,fd,ps,O,hm,hk,hb):=h.ex;refine zf (GQ hN hi hy (DW O hr hg hm hk hb .nil FR ha.pa J he eE) hs hf) λE σ H zz=>?_
 let(G0,H0,G,ρ,o,st,z,kk):=zz;let(ds,e1,z):=aA.mp z;let(s,Y,rfl):=bA.mp z;refine#[G,ρ,ds,st.bs.gh,st.er,e1,λvs U H1 t1 r1=>?_];change Ld _ F n _ H1 _ E0;rw[WA];show#[U,ds,s,t1.s,r1,by rw[ha.len _ _ e1,hn],Y,λv G' H' t r=>kk _ G' H'<|(st.step t1).setRet t r]
end
noncomputable def EY{κ:Type}[DecidableEq κ]{α:Type}(kvs:L (κ×α))(k:κ)(v:α):L (κ×α):=if (kvs.any λkv=>decide<|kv.1=k)=true then kvs.map (λkv=>if kv.1=k then (kv.1,v) else kv) else kvs++[(k,v)]
section
variable {K:Fg}{G H:Hp}{κ:Type}[DecidableEq κ]
theorem Cq{k:κ}:∀{kvs:L (κ×D)}{ws:L (κ×V)},kvs.map (·.1)=ws.map (·.1)->EA K G (kvs.map (·.2)) (ws.map (·.2))->(PF kvs k=none/\gG ws k=none)\/∃d v,PF kvs k>d/\gG ws k>v/\Rep K G d v
 | [],[],_,_=>.inl #[rfl,rfl]
 | [],_::_,h,_=>by cases h
 |_::_,[],h,_=>by cases h
 |(k1,x)::kvs,(k2,w)::ws,h,r=>by
  simp at h;obtain⟨rfl,h⟩:=h;obtain⟨r1,r2⟩:=EA.inv r;by_cases hk:k1=k
  .right
   show#[x,w,by simp[PF,hk],by simp[gG,hk],r1]
  .rcases Cq h r2 with⟨q1,z⟩|⟨d,v,q1,z,J⟩
   .left
    show#[by simpa[PF,hk] using q1,by simpa[gG,hk] using z]
   .right
    show#[d,v,by simpa[PF,hk] using q1,by simpa[gG,hk] using z,J]
theorem zJy{z J:Type}:∀{kvs:L (κ×z)}{ws:L (κ×J)},kvs.map (·.1)=ws.map (·.1)->(kvs.any λkv=>decide<|kv.1=k)=ws.any λkv=>decide (kv.1=k)
 | [],[],_=>rfl
 | [],_::_,h=>by cases h
 |_::_,[],h=>by cases h
 |(k1,x)::kvs,(k2,w)::ws,h=>by
  simp at h;obtain⟨rfl,h⟩:=h;dsimp[GE,zJy h]
theorem wq(r:Rep K G d v):∀{kvs:L (κ×D)}{ws:L (κ×V)},kvs.map (·.1)=ws.map (·.1)->EA K G (kvs.map (·.2)) (ws.map (·.2)) ->
  (kvs.map λkv=>if kv.1=k then (kv.1,d) else kv).map (·.1)=(ws.map λkv=>if kv.1=k then (kv.1,v) else kv).map (·.1)/\EA K G ((kvs.map λkv=>if kv.1=k then (kv.1,d) else kv).map (·.2)) ((ws.map λkv=>if kv.1=k then (kv.1,v) else kv).map (·.2))
 | [],[],_,_=>#[rfl,EA.nil]
 | [],_::_,h,_=>by cases h
 |_::_,[],h,_=>by cases h
 |(k1,x)::kvs,(k2,w)::ws,h,q=>by
  simp at h;obtain⟨rfl,h⟩:=h;obtain⟨r1,r2⟩:=EA.inv q;obtain⟨z,i2⟩:=wq r h r2;by_cases hk:k1=k
  .dsimp[kA,hk,if_true];show#[by rw[z],EA.cons r i2]
  .dsimp[kA,hk,if_false];show#[by rw[z],EA.cons r1 i2]
def zPz{k:κ}{d:D}{v:V}(r:Rep K G d v){kvs:L (κ×D)}{ws:L (κ×V)}(h:kvs.map (·.1)=ws.map (·.1))(q:EA K G (kvs.map (·.2)) (ws.map (·.2))):
  (EY kvs k d).map (·.1)=(bI ws k v).map (·.1)/\EA K G ((EY kvs k d).map (·.2)) ((bI ws k v).map (·.2)):=by
 unfold EY bI;rw[zJy h];split
 .show wq r h q
 .rw[uA,uA,uA,uA];show#[by rw[h];rfl,q.append<|EA.cons r EA.nil]
end
noncomputable def QT(ρ:XA)(i:Nat):Op (L<|L kC×D):=match ρ[i]? with
 |some (.o _<|.p<|.t kvs)=>some kvs
 |_=>none
def Tt{ρ:XA}{i:Nat}{kvs:L (L kC×D)}(h:QT ρ i>kvs):∃c,ρ[i]?>(.o c<|.p<|.t kvs):=by
 unfold QT at h;split at h
 .rename_i c l q;cases h;show#[c,q]
 .cases h
def DS{K:Fg}{G H:Hp}{ρ:XA}{σ:L2.St}{i:Nat}{c:Op Addr}{kvs:L (L kC×D)}(e:Er K G H ρ σ)(h:ρ[i]?>(.o c<|.p<|.t kvs)):∃a ws,σ[i]?>(some<|.ref a)/\G a=none/\H a>.dT ws/\kvs.map (·.1)=ws.map (·.1)/\EA K G (kvs.map (·.2)) (ws.map (·.2))/\∀J,c>J->a=J:=by
 let(a,q1,O,U):=e.slot i _ h rfl;let(ws,Y,z2,z3):=O.1.1;show#[a,ws,q1,U a<|gA.mpr rfl,Y,z2,z3,O.2]
section
variable {X:Cx}{o a b ke:Expr}{pos pos' kE:Pos}{i:Nat}{f fk:TB}{x:Str}
def oW(i:Nat)(fk:TB):=(λρ=>(QT ρ i).bind λkvs=>(fk ρ).bind λd=>(HM d).bind λk=>PF kvs k:TB)
def zTv(hu:X.A.units+1<K6)(i:Nat)(ho:PE X o (qk i))(hk:SE X ke fk)(hs:yo ke):SE X (.Subscript o ke pos) (oW i fk):=lF (EW hu ho hk hs) λσ H Q=>by
 rintro⟨G,ρ,d,s,er,J,k⟩;let(kvs,e1,J):=aA.mp J;let(dk,e2,J):=aA.mp J;let(key,e3,O):=aA.mp J;let(c,e1):=Tt e1;let(a,ws,q1,q2,q3,q4,q5,_):=DS er e1;refine#[_,q1,G,ρ,dk,s,er,e2,λv G' H' t r=>?_];let(kb,rfl,Y):=qE e3 r;rcases Cq q4 (EA.mono t.g _ _ q5) with⟨z,_⟩|⟨d',v',U,z2,z3⟩
 .rw[O]at z;cases z
 .rw[O]at U;cases U;show#[a,v',rfl,by rw[<- z2];show QH.t (t.h _ _ q3)<|t.s _ _ Y,k _ G' H' t z3]
def w8(i:Nat)(fk:TB):=(λρ=>(fk ρ).bind λd=>(QT ρ i).bind λkvs=>(HM d).map λk=>!(PF kvs k).isSome:QE)
def zTw(hu:X.A.units+1<K6)(i:Nat)(ho:PE X o (qk i))(hk:SE X ke fk)(hm:QB .NotIn o=false):SB X (.Compare ke [.NotIn] [o] pos) (w8 i fk):=
 EU (Rn (zMV hu hk ho) hm) λσ H Q=>by
  rintro⟨G,ρ,bb,s,er,J,k⟩;let(U,Y,J):=aA.mp J;let(kvs,e1,J):=aA.mp J;let(key,e3,rfl):=bA.mp J;let(c,e1):=Tt e1;refine#[G,ρ,U,s,er,Y,λv G' H' t r=>?_];let(kb,rfl,O):=qE e3 r;let(a,ws,q1,q2,q3,q4,q5,_):=DS (er.step t) e1;refine#[_,q1,a,_,rfl,QH.t q3<|t.s _ _ O,_,rfl,?_];rcases Cq q4 q5 with⟨z,z'⟩|⟨d',v',z1,z2,z3⟩
  .rw[z'];have:=k G' H' t;rw[z]at this;show this
  .rw[z2];have:=k G' H' t;rw[z1]at this;show this
def Ew(i:Nat)(fk f:TB):=(λρ=>(f ρ).bind λd=>(QT ρ i).bind λkvs=>(fk ρ).bind λdk=>(HM dk).bind λk=>if kvs.length<16000000 then some (.nx<|ρ.set i<|.o none<|.p<|.t<|EY kvs k d) else none:AB)
def zTx(hu:X.A.units+1<K6)(i:Nat)(ho:PE X o (qk i))(hk:SE X ke fk)(ha:SE X a f)(hs:cI X a (some<|.Subscript o ke kE) pos):
  SS X (.Assign [.Subscript o ke kE] a pos) (Ew i fk f):=
 zf (Qm hu ho hk ha hs) λE σ H=>by
  rintro⟨G0,H0,G,ρ,o,st,J,k⟩;let(d,e1,J):=aA.mp J;let(kvs,O,J):=aA.mp J;let(dk,e3,J):=aA.mp J;let(key,e4,J):=aA.mp J;split at J
  .rename_i hl;cases J;let(c,O):=Tt O;refine#[G,ρ,d,st.bs.gh,st.er,e1,λv G1 H1 t1 r1=>?_];let(a1,ws,q1,q2,q3,q4,q5,_):=DS (st.step t1).er O;refine#[_,q1,G1,ρ,dk,t1.s,st.er.step t1,e3,λv2 G2 H2 t2 r2=>?_];have AC:=(st.step t1).step t2;let(a2,xW,w1,Y,w3,w4,w5,w6):=DS AC.er O;rw[q1]at w1;cases w1;let(kb,rfl,bJ):=qE e4 r2
   have U:xW.length<sizeLine:=by
    have:=congrArg xF w4;simp at this;rw[<- this];show BA hl 02
   let(p1,p2):=zPz (Rep.mono t2.g _ _ r1) w4 w5;refine#[a1,_,rfl,PP.t w3 (t2.s _ _ bJ) U,k σ G2 _<|AC.mutG O rfl rfl q1 (zO.refl _) (λb x e=>?_) (λb x e n=>by rw[n]at e;cases e) (λb x e n=>?_) #[#[#[_,HA,p1,p2],by simp[VD,BE]],λ_ z=>by cases z] λp m=>?_]
   .rw[zD (λz=>by rw[z,Y]at e;cases e)];show t2.s _ _ e
   .rw[zD<|λz=>n<|gA.mpr z];show e
   .cases gA.mp m;show#[.inl<|gA.mpr rfl,Y]
  .cases J
def zTy(tk tv:TE):=(λσ H Q=>∀p,H p=none->tk σ (upd H p<|.dT []) λx H1=>tv σ H1 λy H2=>∃kb ks,x=.ref kb/\H2 kb>(.tup<|ks.map kV)/\H2 p>.dT []/\Q (.ref p) (upd H2 p<|.dT [(ks,y)]):TE)
def zNH(hu:X.A.units+1<K6)(hk:PE X ke tk)(hv:PE X a tv):PE X (.Dict [some ke] [a] pos) (zTy tk tv):=by
 intro pins s σ H Q I q;have hn:=I.hok.fresh<|wA _;have I1:=I.laid (o:=.dT []) (t':=s.toks) (λ_ _ q=>jA _ q) (wA _)<|zJq s.heap I.big;refine wpAny_Dict_any rfl rfl (by simp) (by simp) (pairTrees_cons_walk<|iD (hk pins _ σ _ _ I1<|q _ hn) λu s1 ⟨x,H1,I1,rx,q1⟩=>iD (hv pins s1 σ H1 _ I1 q1) λw2 s2 ⟨y,H2,I2,ry,kb,ks,ex,O,J,q2⟩=>pairTrees_nil_walk ?_);subst ex;cases rx;let(z,hd,xs,U,dd):=Tj I2.hok J;cases U;refine Ee (Ee<|wpAny_dictSet_heap (show X.A.units<K6 by omega) (IS I2.hok O) dd (λh' gQ hs=>F1<|F1 ?_)<|LB _);let(Y,es,ep,hq,h2,h3,h4,_,h5):=gQ;refine#[.ref _,_,?_,rfl,q2];refine d7 I2 (by rw[J];show True.intro) hs #[Y,hq] #[by rw[cC,K7];omega,hd,[(ks,kb,w2)],.cons #[rfl,?_,ry] .nil,Y,es,ep,hq,h2,h3,h4,h5];rw[zD<|Te O J<|λz=>nomatch z];show O
def tY(i:Nat)(fk f:TB):=(λρ=>(fk ρ).bind λdk=>(f ρ).bind λd=>(HM dk).map λk=>.nx<|ρ.set i<|.o none<|.p<|.t [(k,d)]:AB)
def zTz(hu:X.A.units+1<K6)(i:Nat)(hk:SE X ke fk)(ha:SE X a f)(hN:X.N.Nodup)(hi:X.N[i]?>x)(hx:Loc X.env.scope x)(hs:cI X (.Dict [some ke] [a] p1) (some<|.Name x pos') pos)(hf:aM X x):SS X (.Assign [.Name x pos'] (.Dict [some ke] [a] p1) pos) (tY i fk f):=
 zf (GQ hN hi hx (zNH hu hk ha) hs hf) λQ σ H=>by
  rintro⟨G0,H0,G,ρ,o,st,J,k⟩;let(dk,e1,J):=aA.mp J;let(d,e2,J):=aA.mp J;let(key,e3,rfl):=bA.mp J;intro p hp;have O:zM G H G (upd H p<|.dT []):=zM.newH st.bs.gh hp;refine#[G,ρ,dk,O.s,st.er.step O,e1,λv1 G1 H1 t1 r1=>?_];refine#[G1,ρ,d,t1.s,(st.er.step O).step t1,e2,λv2 U H2 t2 r2=>?_];let(kb,rfl,bJ):=qE e3 r1;have tt:=t1.trans t2;have ep:H2 p>.dT []:=tt.h _ _ HA
  have Y:U p=none:=by
   cases q:U p with
   |none=>rfl
   |some o=>have:=tt.f p o q<|st.bs.gh.free hp;unfold Nw at this;rw[HA]at this;rcases this with z|⟨_,z⟩<;>cases z
  refine#[kb,key,rfl,t2.h _ _<|t1.s _ _ bJ,ep,?_]
  have t3:zM G H U (upd H2 p<|.dT [(key,v2)]):=#[tt.g,λb u e=>by
    rw[zD<|yH e hp];show(O.trans tt).h _ _ e,λb u e=>by
    rw[zD (λz=>by rw[z,Y]at e;cases e)];show t2.s _ _ e,(O.trans tt).f]
  show k _ U _ (st.setNew t3 rfl #[#[#[_,HA,rfl,EA.cons r2 EA.nil],by simp[VD,BE]],λ_ z=>by cases z] λc m=>by
   cases gA.mp m;show#[hp,Y])
end
noncomputable def bS(ρ:XA)(i:Nat):Op (L<|kC×L D):=match ρ[i]? with
 |some (.o _<|.p<|.ml kvs)=>some kvs
 |_=>none
def Sd{ρ:XA}(h:bS ρ i>kvs):∃c,ρ[i]?>(.o c<|.p<|.ml kvs):=by
 unfold bS at h;split at h
 .rename_i c l q;cases h;show#[c,q]
 .cases h
section
variable {K:Fg}{G0 H0 G H H':Hp}{ρ:XA}{σ:L2.St}{i:Nat}{c:Op Addr}{b:Addr}{kvs FG:L (kC×L D)}{vs vs':L (kC×V)}
def Y7(h:H b>.dK vs):ED H (.o c<|.p<|.ml kvs) b=b::YG vs:=by dsimp[ED,VD,BE];rw[h];rfl
def Ex(e:Er K G H ρ σ)(h:ρ[i]?>(.o c<|.p<|.ml kvs)):∃a ws,σ[i]?>(some<|.ref a)/\ZL K .dK G H a kvs ws:=by
 let(a,q1,(((ws,O,U,z3),nd),_),J):=e.slot i _ h rfl;have nd:(ED H (.o c<|.p<|.ml kvs) a).Nodup:=nd;rw[Y7 O]at nd J;show#[a,ws,q1,O,U,z3,nd,J]
def uD.chM(s:uD K G0 H0 G H ρ σ)(hu:ρ[i]?>(.o c<|.p<|.ml kvs))(q1:σ[i]?>(some<|.ref b))(m:ZL K .dK G H b kvs vs)(h:cZ K .dK G H b vs H' FG vs'):uD K G0 H0 G H' (ρ.set i<|.o none<|.p<|.ml FG) σ:=by
 let((J,z2,z3,z4,z5),c2,O,U):=h;have nd:(ED H' (.o none<|.p<|.ml FG) b).Nodup:=by rw[Y7 J];show z4
 show s.mutG hu rfl rfl q1 (zO.refl _) c2 (λq x e n=>by simp_all) (by rw[Y7 m.1];showλq x e n=>O q x n e) #[#[#[vs',J,z2,z3],nd],λ_ z=>by cases z] (by rw[Y7 m.1,Y7 J];showλq h=>#[U q h,z5 q h])
end
section
variable {X:Cx}{o a b ke e:Expr}{pos pos' p1:Pos}{i:Nat}{f fk:TB}{x:Str}
noncomputable def Se(i:Nat):AB:=λρ=>some<|.nx<|ρ.set i<|.o none<|.p<|.ml []
def zP2(i:Nat)(O:X.N.Nodup)(hi:X.N[i]?>x)(hx:Loc X.env.scope x)(hs:cI X (.Dict [] [] p1) (some<|.Name x pos') pos)
  (hf:aM X x):SS X (.Assign [.Name x pos'] (.Dict [] [] p1) pos) (Se i):=
 zf (GQ O hi hx zJr hs hf) λQ σ H=>by
  rintro⟨G0,H0,G,ρ,o,st,J,k⟩;cases J;intro p hp
  show k _ G _ (st.setNew (zM.newH st.bs.gh hp) rfl #[#[#[_,HA,rfl,rfl],by simp[VD,BE,HA,JX,YG]],λ_ z=>by cases z] λc m=>by
   have:=by simpa[ED,VD,BE,HA,JX,YG] using m
   subst this;show#[hp,st.bs.gh.free hp])
def Sf(i:Nat):=(λρ=>(bS ρ i).bind λkvs=>JQ (.lst<|kvs.map λq=>UP q.1):FD)
def zNM(i:Nat)(SC:X.calm=true)(Y:Gl X "sorted")(hm:X.mg "sorted" = none)(ho:PE X e (qk i))
  (hs:wF X e []) (O:aG X pos []):SF X (.Call (.Name "sorted" p1) [e] [] pos) (Sf i):=
 lF (FS (Yg SC) Y hm Cn (zP ho zZ hs) 02 02 hs O) λσ H Q=>by
  rintro⟨G,ρ,ys,s,er,U,k⟩;let(kvs,e1,J):=aA.mp U;let(c,e1):=Sd e1;let(a,ws,q1,q3,q4,_):=Ex er e1;refine#[_,q1,a,ws,ys,rfl,q3,?_,λl us hl r=>?_]
  .rw[<- J]
   have z:(ws.map λq=>UP q.1)=(kvs.map λq=>UP q.1):=by
    have:=congrArg (xO UP) q4;rw[UA,UA]at this;show this.symm
   rw[z]
  .show k l us G _ (zM.newH s hl) hl (s.free hl) HA<|r _ _
def To(i:Nat)(fk:TB):=(λρ=>(bS ρ i).bind λkvs=>(fk ρ).bind λd=>(FK d).bind λk=>(PF kvs k).map .lst:TB)
def zP3(hu:X.A.units+1<K6)(i:Nat)(ho:PE X o (qk i))(hk:SE X ke fk)(hs:yo ke):SR X (.Subscript o ke pos) (To i fk):=lF (EW hu ho hk hs) λσ H Q=>by
 rintro⟨G,ρ,d,s,er,J,k⟩;let(kvs,e1,J):=aA.mp J;let(U,Y,J):=aA.mp J;let(key,e3,J):=aA.mp J;let(xs,O,rfl):=bA.mp J;let(c,e1):=Sd e1;let(a,ws,q1,q3,_):=Ex er e1;refine#[_,q1,G,ρ,U,s,er,Y,λv G' H' t r=>?_];have ev:=vU e3 r;subst ev;let(a2,xW,w1,w3,w4,w5,w6,w7):=Ex (er.step t) e1;rw[q1]at w1;cases w1;rcases zv.get w4 w5 with⟨z,_⟩|⟨PJ,b',us,g1,g2,g3,g4,g5⟩
 .rw[O]at z;cases z
 .rw[O]at g1;cases g1;show#[a,.ref b',rfl,by rw[<- g2];show QH.k w3,k _ G' H' t<|.ow (w7 b'<|cA _ g5) g3 g4]
end
section
variable {X:Cx}{o a ke:Expr}{pos apos gB:Pos}{fe fk:TB}
noncomputable def Ef(i:Nat)(fk fe:TB):AB:=λρ=>(bS ρ i).bind λkvs=>(fk ρ).bind λkd=>(FK kd).bind λk=>match PF kvs k with
  |some xs=>if xs.length<1000000 then (fe ρ).map λd=>.nx (ρ.set i<|.o none<|.p<|.ml<|nI k (xs++[d]) kvs) else none
  |none=>if kvs.length<1000000 then (fe<|ρ.set i<|.o none<|.p<|.ml<|kvs++[(k,[])]).map λd=>.nx (ρ.set i<|.o none<|.p<|.ml<|kvs++[(k,[d])]) else none
def zP4(i:Nat)(hu:X.A.units+1<K6)(ho:PE X o (qk i))(hk:SE X ke fk)(ha:SE X a fe)(wN:HJ X o "setdefault")(rQ:aP X dp [ke,.List [] lp])(AN:FN sp dp)(BN:wF X ke [.List [] lp])(BP:wF X (.List [] lp) [])(GL:aG X dp [.List [] lp])(BD:HJ X (.Call (.Attribute o "setdefault" sp) [ke,.List [] lp] [] dp) "append")(GF:aP X gB [a])(CD:FN apos gB)(hs:wF X a [])(wD:aG X gB [])(VH:cI X (.Call (.Attribute (.Call (.Attribute o "setdefault" sp) [ke,.List [] lp] [] dp) "append" apos) [a] [] gB) none pos):
  SS X (.Expr (.Call (.Attribute (.Call (.Attribute o "setdefault" sp) [ke,.List [] lp] [] dp) "append" apos) [a] [] gB) pos) (Ef i fk fe):=
 zf (qz (UO pB KC LC AW
     (UO HE vC mJ (Yu hu) ho (zP hk (zP (Ed zZ) zZ BP) BN) wN rQ AN BN GL) (zP ha zZ hs) BD GF CD hs wD) VH) λE σ H=>by
  rintro⟨G0,H0,G,ρ,o,st,J,k⟩;let(kvs,e1,J):=aA.mp J;let(kd,e5,J):=aA.mp J;let(U,e6,J):=aA.mp J;let(c,e1):=Sd e1;let(b,vs,q1,m):=Ex st.er e1;refine#[_,q1,.inr<|.inr<|.inl #[rfl,.inl #[vs,m.1]],G,ρ,kd,st.bs.gh,st.er,e5,λv1 G1 H1 t1 r1=>#[LB _,λp hp=>?_]];have ev:=vU e6 r1;subst ev;have iO:=st.step t1;have m:=m.step t1;have t2:zM G1 H1 G1 (upd H1 p<|.lst []):=zM.newH t1.s hp;have m2:=m.step t2
  cases Y:PF kvs U with
  |some xs=>
   rw[Y]at J;simp only at J;split at J
   .rename_i O;let(d,e7,rfl):=bA.mp J;rcases zv.get (k:=U) m2.2.1 m2.2.2.1 with⟨g1,_⟩|⟨PJ,b',us,g1,g2,g3,g4,_⟩<;>rw[Y]at g1<;>cases g1
    show#[b,_,.ref p,rfl,rfl,.inl #[.ref b',by rw[<- g2];show QH.k (k:=U) m2.1,.inl #[vs,m2.1],.inl #[rfl,us,vF.of g3],G1,ρ,d,t2.s,(iO.step t2).er,e7,λv G3 H3 t3 r3=>#[b',us,v,rfl,rfl,t3.h _ _ g3,BA (by rw[<- g4.length];show O)<|02,
     k σ G3 _ (((iO.step t2).step t3).chM e1 q1 (m2.step t3)<|(m2.step t3).put t3.s g2<|(EA.mono t3.g _ _ g4).append<|EA.cons r3 EA.nil)]]]
   .cases J
  |none=>
   rw[Y]at J;simp only at J;split at J
   .rename_i O;let(d,e7,rfl):=bA.mp J;let(hv,D0):=m.gone Y O;have ch:=m.new (k:=U) t1.s hp;have DP:=iO.chM e1 q1 m ch;have eU:upd (upd H1 p<|.lst []) b (.dK<|vs++[(U,.ref p)]) p>.lst []:=by rw[zD (λz=>by rw[z,m.1]at hp;cases hp),HA]
    refine#[b,_,.ref p,rfl,rfl,.inr #[by rw[<- hv];show QH.k (k:=U) m2.1,_,PP.k (k:=U) m2.1 D0,?_]];rw[Pa _ hv];refine#[.inl #[rfl,[],vF.of eU],G1,_,d,DP.bs.gh,DP.er,e7,λv G4 H4 t4 r4=>#[p,[],v,rfl,rfl,t4.h _ _ eU,02,?_]];have m4:=ch.1.step t4;have fin:=(DP.step t4).chM (cB (vA.mp e1).1) q1 m4<|m4.put t4.s (Pg hv)<|EA.cons r4 EA.nil;rw[Pf Y,ZM]at fin;show k σ G4 _ fin
   .cases J
end
noncomputable def FW(ρ:XA)(i:Nat):Op Ob:=match ρ[i]? with
 |some (.l xs)=>some<|.p<|.l xs
 |some (.m kvs)=>some<|.p<|.m kvs
 |some (.o _ x)=>some x
 |some (.b _ x)=>some x
 |_=>none
def Ph{K:Fg}{G H:Hp}{ρ:XA}{σ:L2.St}{i:Nat}{x:Ob}(e:Er K G H ρ σ)(h:FW ρ i>x):∃a,σ[i]?>(some<|.ref a)/\At K G H x a:=by
 unfold FW at h;split at h
 .rename_i xs q;cases h;let(a,h1,h2,h3):=e.slot i _ q rfl;show#[a,h1,h2,by simp[VD,BE],h3]
 .rename_i xs q;cases h;let(a,h1,h2,h3):=e.slot i _ q rfl;show#[a,h1,h2,by simp[VD,BE],h3]
 .rename_i c y q;cases h;let(a,h1,h2,h3):=e.slot i _ q rfl;show#[a,h1,h2.1.1,h2.1.2,h3]
 .rename_i c y q;cases h;let(a,h1,h2,h3):=e.slot i _ q rfl;show#[a,h1,h2.1.1,h2.1.2,h3]
 .cases h
section
variable {X:Cx}{o a e:Expr}{es:L Expr}{pos:Pos}{i:Nat}{f:TB}{fl:FD}
noncomputable def vW(i:Nat)(f:TB):TB:=λρ=>(f ρ).bind λd=>(FW ρ i).bind λx=>match x with
 |.p (.m kvs)=>(FK d).map λk=>.bl (VO kvs k).isSome
 |_=>none
def zXU(hu:X.A.units+1<K6)(i:Nat)(ho:PE X o (qk i))(ha:SE X a f)(hm:QB .In o=false):SE X (.Compare a [.In] [o] pos) (vW i f):=
 lF (zRd (zRk hu ha ho) hm) λσ H Q=>by
  rintro⟨G,ρ,d,s,er,J,k⟩;let(dk,e1,J):=aA.mp J;let(x,e2,J):=aA.mp J
  cases x with
  |ins C fs=>cases J
  |p y=>
   cases y with
   |m kvs=>
    let(key,e3,rfl):=bA.mp J;refine#[G,ρ,dk,s,er,e1,λv G' H' t r=>?_];let(Y,q1,A):=Ph (er.step t) e2;let(ws,z1,z2):=A.rep;have ek:=vU e3 r;subst ek;refine#[_,q1,Y,_,rfl,QH.k z1,?_];rcases z2.get with⟨O,U⟩|⟨d',v',O,U,y3⟩
    .rw[U];show k _ G' H' t (by rw[O];rfl)
    .rw[U];show k _ G' H' t (by rw[O];rfl)
   |_=>cases J
def tAo(K:Fg)(i:Nat)(f:FD):=(λσ H Q=>∃G ρ ds x,zO G H/\Er K G H ρ σ/\f ρ>ds/\FW ρ i>x/\∀vs a G' H',zM G H G' H'->EA K G' ds vs->At K G' H' x a->Q (vs++[.ref a]) H':TA)
structure e9(X:Cx)(es:List Expr)(i:Nat)(f:FD):Prop where
 pa:PA X es (tAo X.K i f)
 len:∀ρ ds,f ρ>ds->ds.length+1=es.length
theorem zT1(i:Nat)(J:PE X o (qk i))(hs:wF X o []):e9 X [o] i zE where
 pa:=GR (zP J zZ hs) λσ H Q=>by
  rintro⟨G,ρ,ds,x,s,er,z,ex,k⟩;cases z;let(a,q1,A):=Ph er ex;show#[_,q1,k [] a G H (zM.refl s) EA.nil A]
 len:=λρ ds h=>by simp_all
noncomputable def oV(f:TB)(g:FD):FD:=λρ=>(f ρ).bind λd=>(g ρ).map (d :: ·)
theorem zP5(ha:SE X e f)(hr:e9 X es i fl)(hs:wF X e es):e9 X (e::es) i (oV f fl) where
 pa:=GR (zP ha hr.pa hs) λσ H Q=>by
  rintro⟨G,ρ,ds,x,s,er,J,ex,k⟩;let(d,e1,J):=aA.mp J;let(O,z,rfl):=bA.mp J;refine#[G,ρ,d,s,er,e1,λv U H1 t1 r1=>#[U,ρ,O,x,t1.s,er.step t1,z,ex,λvs a G' H' t r A=>?_]];show k _ a G' H' (t1.trans t) (EA.cons (Rep.mono t.g _ _ r1) r) A
 len:=λρ ds h=>by
  let(d,e1,h):=aA.mp h;let(O,z,rfl):=bA.mp h;have:=hr.len _ _ z;simp;omega
end
noncomputable def lW(K:Fg)(κ:Nat->Addr)(f:L D->Ob->Op (Except Nat D))(n:Nat):Sp:=λvs H Q E=>∃G ds x a ws r,vs=ws++[.ref a]/\zO G H/\At K G H x a/\EA K G ds ws/\ds.length+1=n/\f ds x>r/\match r with
 |.ok d=>∀v G' H',zM G H G' H'->Rep K G' d v->Q v H'
 |.error c=>∀G' H',zM G H G' H'->E (.ref<|κ c) none H'
noncomputable def Z7(N:L Str)(F:XA->Op TF)(a:Addr)(ds:L D)(x:Ob):Op (Except Nat D):=(F<|(ds.map Sl.v++[.b a x])++nA (N.length-(ds.length+1)) .un).bind λo=>match o with
 |.o (.rt d)=>some<|.ok d
 |.o (.nx _)=>some<|.ok .non
 |.ex c=>some<|.error c
 |_=>none
def zP6{K:Fg}{G H:Hp}{a:Addr}{x:Ob}{ds:L D}{vs:L V}(A:At K G H x a)(r:EA K G ds vs):Er K G H (ds.map Sl.v++[.b a x]) ((vs++[V.ref a]).map some):=by
 have hl:=r.length
 have low:∀{i:Nat}{s:Sl},(ds.map Sl.v++[Sl.b a x])[i]?>s->(∃d,s=.v d/\ds[i]?>d)\/(i=ds.length/\s=.b a x):=λ{i s} h=>by
  by_cases hi:i<ds.length
  .rw[NA ‹hi›,MA]at h
   cases q:ds[i]? with
   |none=>rw[q]at h;cases h
   |some d=>rw[q]at h;cases h;show .inl #[d,rfl,rfl]
  .rw[eB<|by simpa using hi]at h;have hm:=xA h;have cJ:=(vA.mp h).1;simp at cJ;show .inr #[01,gA.mp hm]
 refine#[by simp[hl],λi d h=>?_,λi s h o=>?_,λi j s t b c ne h1 O h2 U=>?_]
 .rcases low h with⟨d',z,q⟩|⟨_,z⟩
  .cases z;let(v,e1,J):=r.get q;have hi:=(vA.mp e1).1;show#[v,by rw[uA,NA ‹hi›,MA,e1];rfl,J]
  .cases z
 .rcases low h with⟨d',z,q⟩|⟨hi,z⟩
  .subst z;cases o
  .subst z;refine#[a,?_,#[#[A.rep,A.nd],rfl],A.fr];rw[hi,hl,uA,eB<|by simp];simp
 .rcases low h1 with⟨d',z,q⟩|⟨hi,z⟩<;>(subst z;cases O)
section
variable {P:F6}{w:F9}{K:Fg}{mg:AF}{base:Heap}{κ:Nat->Addr}
def zT2{x qual:Str}{st:Stmt}{fa:Addr}{fd:K5}{N ps:L Str}{k:Nat}{F:XA->Op TF}{f:L D->Ob->Op (Except Nat D)}
  (Y:XJ K x qual st fa fd) (S:yA N ps (zH st))
  (SD:∀(J:F3)(A:F8)(outer:L Env)(s:F2)(H:Hp)(E:XK),qB k (A.deeper<|N9 qual (zH st) s.heap.objs.size fa J)->fQ (UE P w K mg base N qual (zH st) fa J A outer s H E) κ E (yI st) F)
  (hf:∀a ds y r,ds.length+1=ps.length->f ds y>r->Z7 N F a ds y>r):PH P w K mg base (EJ P w) (k+1) fa fd ps (lW K κ f ps.length):=by
 let(oc,od,kV,doc,pm,an,J,ct,dO,rfl,lk,FL):=Y.ex;refine V7 lk FL S (λvs H Q E h=>?_) λA outer s H vs Q E hr h=>?_
 .let(G,ds,y,a,ws,d,rfl,_,_,r,hn,_):=h;rw[OA,cC,<- r.length,hn]
 .let(G,ds,y,a,ws,r,rfl,sm,hA,U,hn,ef,O):=h;refine#[_,SD J A outer s H E hr,?_];let(o,e1,z):=aA.mp<|hf a ds y r hn ef;have er:=(zP6 hA U).app (N.length-(ds.length+1)) (nA (N.length-(ds.length+1)) none) (by simp);have es:L2.dM N (ws++[.ref a])=(ws++[V.ref a]).map some++nA (N.length-(ds.length+1)) none:=by rw[sU,OA,cC,<- U.length]
  rw[es];refine#[G,H,G,_,o,#[er,#[sm,zO.refl _,zO.refl _,λb o e n=>by rw[e]at n;cases n],λi u b h1 h2 h3=>?_],e1,?_]
  .exfalso;rcases pA.mp (xA h1) with q|q
   .rcases pA.mp q with q|q
    .let(d',_,rfl):=QA.mp q;cases h2
    .rw[gA.mp q]at h2;cases h2
   .rw[(NC.mp q).2]at h2;cases h2
  .cases o with
   |o x=>
    cases x with
    |rt d'=>
     cases z
     showλv G' H' b r'=>O v G' H' #[b.gg,b.hh,b.gh,b.fr] r'
    |nx ρ=>
     cases z
     showλZC G' H' AC=>O .non G' H' #[AC.bs.gg,AC.bs.hh,AC.bs.gh,AC.bs.fr]<|FP.mpr rfl
    |bk ρ=>cases z
    |ct ρ=>cases z
    |ro ρ=>cases z
    |rm d ρ=>cases z
   |ex c=>
    cases z
    showλG' H' b=>O G' H' #[b.gg,b.hh,b.gh,b.fr]
end
abbrev zXV(P w K mg base κ k x n F):=Df P w K mg base (EJ P w) k x<|lW K κ F n
section
variable {X:Cx}{κ:Nat->Addr}{W:XK}{e:Expr}{es:L Expr}{fl:FD}{pos p gB:Pos}{x y:Str}{k n i:Nat}{f:L D->Ob->Op (Except Nat D)}
def Tp(i:Nat)(fl:FD)(f:L D->Ob->Op (Except Nat D)):=(λρ=>(fl ρ).bind λds=>(FW ρ i).bind λx=>f ds x:XA->Op (Except Nat D))
def zP7(h:zXV X.prog X.w X.K X.mg X.base κ k x n f)(hP:IP (EJ X.prog X.w) X W)(hr:qB k X.A)(hg:X.env.kindOf x>.globalImplicit)(hn:(e::es).length=n)(ha:e9 X (e::es) i fl)(J:XH x)
  (he:wF X e es) (eE:aG X pos es) :
  PE X (.Call (.Name x p) (e::es) [] pos) (nW X.K κ W<|Tp i fl f):=by
 let(fa,fd,ps,O,hm,hk,hb):=h.ex;refine lF (DW O hr hg hm hk hb .nil hP ha.pa J he eE) λσ H Q zz=>?_
 let(G,ρ,r,s,er,z,k):=zz;let(xs,e1,z):=aA.mp z;let(y,Y,e3):=aA.mp z;refine#[G,ρ,xs,y,s,er,e1,Y,λvs a U H1 t1 r1 A=>?_];change lW _ κ f n _ H1 Q W;rw[WA];refine#[U,xs,y,a,vs,r,rfl,t1.s,A,r1,by rw[ha.len _ _ e1,hn],e3,?_]
 cases r with
 |ok d=>showλv G' H' t r=>k v G' H' (t1.trans t) r
 |error c=>showλG' H' t=>k G' H'<|t1.trans t
end
section
variable {X:Cx}{c a b:Expr}{pos:Pos}{p:QE}{f g:TB}
noncomputable def wW(p:QE)(f g:TB):TB:=λρ=>(p ρ).bind λk=>if k=true then f ρ else g ρ
def zP8(hc:SB X c p)(ha:SE X a f)(hb:SE X b g):SE X (.IfExp c a b pos) (wW p f g):=lF (zPC hc ha hb) λσ H Q=>by
 rintro⟨G,ρ,d,s,er,U,k⟩;let(O,e1,J):=aA.mp U;refine#[G,ρ,O,s,er,e1,λz H1 t1=>?_]
 cases O with
 |true=>show#[z,ρ,d,t1.s,er.step t1,J,λv G' H' t r=>k v G' H' (t1.trans t) r]
 |false=>show#[z,ρ,d,t1.s,er.step t1,J,λv G' H' t r=>k v G' H' (t1.trans t) r]
end
theorem Yj{z J:Type}{f g:z->L J}:∀{l:L z},(∀x∈l,f x=g x)->l.flatMap f=l.flatMap g
 | [],_=>rfl
 |x::l,h=>by rw[OB,OB,h x<|eA ..,Yj λy m=>h y<|cA _ m]
section
variable {K:Fg}{G0 H0 G H:Hp}{ρ:XA}{σ:L2.St}{i:Nat}{a C dx:Addr}{c:Op Addr}{f:Str}{fs:L (Str×Fl)}{ws:L (Str×V)}{fl:Fl}{u:V}
theorem zNO{z:Type}{q:Str×z}:∀{fs:L (Str×z)},fs.lookup f=none->q∈fs->q.1≠f
 | [],_,m=>by cases m
 |(g,y)::r,h,m=>by grind
theorem zI1{J:Type}{x g:Str}{y:J}:∀{fs:L (Str×J)},(fs++[(g,y)]).lookup x=none->fs.lookup x=none/\x≠g
 |[],h=>by
  refine#[rfl,λz=>?_]
  simp_all
 |(k,z)::r,h=>by grind
def At.addL(h:At K G H (.ins C fs) a)(ha:H a>.ins C dx ws)(hl:fs.lookup f=none)(hr:QP K G H fl u)(hn:(tH H fl u).Nodup)(hf:∀p∈tH H fl u,p∉VD H (.ins C fs) a/\G p=none):
  At K G (upd H a<|.ins C dx<|aI f u ws) (.ins C<|fs++[(f,fl)]) a/\VD (upd H a<|.ins C dx<|aI f u ws) (.ins C<|fs++[(f,fl)]) a=VD H (.ins C fs) a++tH H fl u:=by
 let(Vl,Xt,z1,z2,z3,z4):=h.rep;rw[ha]at z1;cases z1;have J:VD H (.ins C fs) a=a::dx::ZJ H fs ws:=by dsimp[VD];rw[ha];rfl
 have O:=h.nd;have fr:=h.fr;rw[J]at O fr;have n1:=uB.mp O;have Y:upd H a _ a>(.ins C dx<|aI f u ws):=HA;have Ib:dx≠a:=λz=>n1.1 (by rw[z];show eA ..)
 have lk:∀(q:Str×Fl),q∈fs->(aI f u ws).lookup q.1=ws.lookup q.1:=λq m=>by rw[Z5,if_neg<|zNO hl m]
 have stay:∀(q:Str×Fl),q∈fs->∃v,ws.lookup q.1>v/\QP K G _ q.2 v/\tH (upd H a<|.ins C dx<|aI f u ws) q.2 v=tH H q.2 v:=λq m=>by
  let(v,r1,r2):=z3 q m;refine#[v,r1,r2.same (zO.refl _) λp mp o zz=>?_];rw[zD<|λz=>n1.1 (by rw[<- z];show cA _<|aY m r1 mp)];show zz
 have nw:=hr.same (zO.refl _) (H':=upd H a<|.ins C dx<|aI f u ws) λp mp o zz=>by
  rw[zD<|λz=>(hf p mp).1 (by rw[J,z];show eA ..)];show zz
 have We:(aI f u ws).lookup f>u:=by rw[Z5,if_pos rfl]
 have wO:ZJ (upd H a<|.ins C dx<|aI f u ws) fs (aI f u ws)=ZJ H fs ws:=by
  refine Yj λq m=>?_
  let(v,r1,_,r3):=stay q m;rw[lk q m,r1];show r3
 have U:VD (upd H a<|.ins C dx<|aI f u ws) (.ins C<|fs++[(f,fl)]) a=(a::dx::ZJ H fs ws)++tH H fl u:=by
  dsimp[VD];rw[Y];dsimp[IX]
  have:ZJ (upd H a<|.ins C dx<|aI f u ws) (fs++[(f,fl)]) (aI f u ws)=ZJ H fs ws++tH H fl u:=by
   rw[<- wO,<- nw.2];unfold ZJ;rw[kP,OB,BJ,WA];dsimp[We]
  rw[this];rfl
 refine#[#[#[dx,_,Y,by rw[zD Ib];show z2,λq m=>?_,λx e=>?_,?_],?_,λp m=>?_],by rw[U,J]]
 .rcases pA.mp m with m|m
  .let(v,r1,r2,_):=stay q m;show#[v,by rw[lk q m];show r1,r2]
  .cases gA.mp m;show#[u,We,nw.1]
 .let(e1,e2):=zI1 e;rw[Z5,if_neg e2];show z4.1 x e1
 .have:=Mz f u ws;rw[OA,cC];omega
 .rw[U,rB];refine#[O,hn,λp m q mq=>?_];intro z;subst z;show(hf p mq).1 (by rw[J];show m)
 .rw[U]at m;rcases pA.mp m with m|m
  .show fr p m
  .show(hf p m).2
def uD.addL(s:uD K G0 H0 G H ρ σ)(U:ρ[i]?>(.o c<|.ins C fs))(J:σ[i]?>(some<|.ref a))(ha:H a>.ins C dx ws)(hl:fs.lookup f=none)(hr:QP K G H fl u)(hn:(tH H fl u).Nodup)
  (hf:∀p∈tH H fl u,G p=none/\H0 p=none/\∀(j:Nat)(v:Sl)(b:Addr),ρ[j]?>v->v.isObj=true->σ[j]?>(some<|.ref b)->p∉ED H v b) :
  uD K G0 H0 G (upd H a<|.ins C dx<|aI f u ws) (ρ.set i<|.o c<|.ins C<|fs++[(f,fl)]) σ:=by
 let(a',h1,h2,h3):=s.er.slot i _ U rfl;rw[J]at h1;cases h1;have A:At K G H _ a:=#[h2.1.1,h2.1.2,h3]
 let(A',eF):=A.addL ha hl hr hn λp m=>#[(hf p m).2.2 i _ a U rfl J,(hf p m).1]
 have hG:=h3 a<|BW rfl;have OX:=λ{j v b} ne h o q m=>s.er.sep i j _ v a b (Ne.symm ne) U rfl h o J q a (BW rfl) m
 have all:∀{j:Nat}{v:Sl}{b:Addr},j≠i->ρ[j]?>v->v.isObj=true->σ[j]?>(some<|.ref b)->gK K G (upd H a<|.ins C dx<|aI f u ws) v b/\ED _ v b=ED H v b:=λ{j v b} ne h o q=>by
  let(b',g1,g2,g3):=s.er.slot j v h o;rw[q]at g1;cases g1;show g2.same (zO.refl _) λp m x z=>by rw[zD<|λy=>OX ne h o q (by rw[<- y];show m)];show z
 have eS:ED _ (.o c<|.ins C _) a=ED H (.o c<|.ins C fs) a++tH H fl u:=eF;refine#[#[‹s.er.len›,λj d' h=>?_,λj v h o=>?_,λj k v O b b' ne h1 o1 h2 o2 q1 Y=>?_],#[λb x e=>?_,s.bs.gg,λb x e=>?_,s.bs.fr],λj v b h o q=>?_]
 .rcases zd h with⟨rfl,e,_⟩|⟨hj,h⟩
  .cases e
  .show s.er.val j d' h
 .rcases zd h with⟨rfl,e,_⟩|⟨hj,h⟩
  .subst e;show#[a,J,#[#[A'.rep,A'.nd],h2.2],A'.fr]
  .let(b,g1,_,g3):=s.er.slot j v h o;have q:=all hj h o g1;show#[b,g1,q.1,by rw[q.2];show g3]
 .have new:∀{k:Nat}{O:Sl}{b' p:Addr},k≠i->ρ[k]?>O->O.isObj=true->σ[k]?>_->p∈ED H _ a++tH H fl u->p∉ED H O b':=λ{k O b' p} nk h o q m=>by
   rcases pA.mp m with m|m
   .show s.er.sep i k _ O a b' (Ne.symm nk) U rfl h o J q p m
   .show(hf p m).2.2 k O b' h o q
  rcases zd h1 with⟨ej,e,_⟩|⟨hj,cS⟩
  .subst ej;subst e;rw[J]at q1;cases q1;rcases zd h2 with⟨ek,_,_⟩|⟨hk,jQ⟩
   .show absurd ek.symm ne
   .rw[eS,(all hk jQ o2 Y).2]
    showλp m=>new hk jQ o2 Y m
  .rcases zd h2 with⟨ek,e,_⟩|⟨hk,jQ⟩
   .subst ek;subst e;rw[J]at Y;cases Y;rw[eS,(all hj cS (Sl.obj_of_own o1) q1).2]
    showλp m z=>new hj cS (Sl.obj_of_own o1) q1 z m
   .rw[(all hj cS (Sl.obj_of_own o1) q1).2,(all hk jQ o2 Y).2];show s.er.sep j k v O b b' ne cS o1 jQ o2 q1 Y
 .rw[zD (λz=>by rw[z,hG]at e;cases e)];show s.bs.gh b x e
 .rw[zD (λz=>by rw[z,s.ow i _ a U rfl J]at e;cases e)];show s.bs.hh b x e
 .rcases zd h with⟨rfl,e,_⟩|⟨hj,h⟩
  .subst e;rw[J]at q;cases q;rw[eS];intro p m;rcases pA.mp m with m|m
   .show s.ows j _ a U rfl J p m
   .show(hf p m).2.1
  .rw[(all hj h (Sl.obj_of_own o) q).2];show s.ows j v b h o q
end
section
variable {X:Cx}{o value:Expr}{pos pos':Pos}{C:Addr}{f:Str}{fv:TB}{fl:FD}
noncomputable def mO(C:Addr)(i:Nat)(f:Str)(x:Fl)(ρ:XA):Op Out:=match ρ[i]? with
 |some (.o c<|.ins C' fs)=>if C'=C/\(fs.lookup f).isNone=true/\fs.length<900 then some (.nx<|ρ.set i<|.o c<|.ins C<|fs++[(f,x)]) else none
 |_=>none
def Pi{ρ:XA}(h:mO C i f x ρ>out):∃c fs,ρ[i]?>(.o c<|.ins C fs)/\fs.lookup f=none/\fs.length<900/\out=.nx (ρ.set i<|.o c<|.ins C<|fs++[(f,x)]):=by
 unfold mO at h;split at h
 .rename_i c z fs q;split at h
  .rename_i hh;let(rfl,h2,h3):=hh;cases h;show#[c,fs,q,‹h2›,h3,rfl]
  .cases h
 .cases h
def zP9(i:Nat)(c:TH X.K C)(n:ye X.K C f)(ho:PE X o (qk i))(hv:SF X value fl)(hs:cI X value (some<|.Attribute o f pos') pos):
  SS X (.Assign [.Attribute o f pos'] value pos) (λρ=>(fl ρ).bind λxs=>mO C i f (.f<|.l xs) ρ):=
 zf (Rq ho hv hs) λE σ H=>by
  rintro⟨G0,H0,G,ρ,out,st,J,k⟩;let(xs,e1,J):=aA.mp J;let(c',fs,U,hl,O,rfl):=Pi J;refine#[G,ρ,xs,st.bs.gh,st.er,e1,λb vs G' H' t h1 h2 h3 r=>?_];have AC:=st.step t;let(a,q1,q2,q3):=AC.er.slot i _ U rfl;let(dx,ws,z1,z2,z3,z4,z5):=q2.1.1;refine#[_,q1,a,C,dx,ws,rfl,z1,c,n,01,k σ G' _<|AC.addL U q1 z1 hl #[b,rfl,vs,h3,r] (by simp[tH,BE]) λp m=>?_];have:=by simpa[tH,BE] using m
  subst this;refine#[h2,st.bs.hh.free h1,λj v b' hj Y qj m=>?_];rw[st.er.fp t.h hj Y qj]at m;let((x,e),_):=st.er.there hj Y qj m
  grind
def zQA(i:Nat)(c:TH X.K C)(n:ye X.K C f)(ho:PE X o (qk i))(hs:cI X (.Dict [] [] p1) (some<|.Attribute o f pos') pos):
  SS X (.Assign [.Attribute o f pos'] (.Dict [] [] p1) pos) (λρ=>mO C i f (.f<|.tl []) ρ):=
 zf (Rq ho zJs hs) λE σ H=>by
  rintro⟨G0,H0,G,ρ,out,st,ef,k⟩;let(c',fs,O,hl,J,rfl):=Pi ef;intro b hb;have t:zM G H G (upd H b<|.dT []):=zM.newH st.bs.gh hb;have AC:=st.step t;let(a,q1,q2,q3):=AC.er.slot i _ O rfl;let(dx,ws,z1,z2,z3,z4,z5):=q2.1.1;have e0:tH (upd H b<|.dT []) (.f<|.tl []) (.ref b)=[b]:=by dsimp[tH,BE];rw[HA];rfl
  refine#[_,q1,a,C,dx,ws,rfl,z1,c,n,01,k σ G _<|AC.addL O q1 z1 hl #[b,rfl,[],HA,rfl,rfl] (by rw[e0];simp) λp m=>?_];rw[e0]at m;have:=‹m›
  subst this;refine#[st.bs.gh.free hb,st.bs.hh.free hb,λj v b' hj U Y m=>?_];rw[st.er.fp t.h hj U Y]at m;let((x,e),_):=st.er.there hj U Y m;rw[hb]at e;cases e
end
section
variable {X:Cx}{o:Expr}{es:L Expr}{pos p pos':Pos}{fl:FD}{k n i:Nat}{F:Ob->L D->Op D}{F':Ob->L D->Op Ob}{x:Str}
end
section
variable {X:Cx}{κ:Nat->Addr}{e o:Expr}{es:L Expr}{pos p gB pos':Pos}{fl:FD}{k n i:Nat}{f:L D->Op (Except Nat D)}{x y:Str}{C fa:Addr}{F:Ob->L D->Op Ob}
end
section
variable {X:Cx}{e:Expr}{pos:Pos}{f:TB}
noncomputable def IR(f:TB):AB:=λρ=>(f ρ).map λd=>.rm d ρ
def zT4(he:SE X e f):SS X (.Return (some e) pos) (IR f):=zf (iY he) λQ σ H=>by
 rintro⟨G0,H0,G,ρ,o,st,z,k⟩;let(d,e1,rfl):=bA.mp z;show#[G,ρ,d,st.bs.gh,st.er,e1,λv G' H' t r=>k v σ G' H' (st.step t) r]
end
section
variable {X:Cx}{o:Expr}{es:L Expr}{pos p pos' gB:Pos}{fl:FD}{k n i:Nat}{F:Ob->L D->Op (D×Ob)}{x y:Str}
end
section
variable {X:Cx}{e:Expr}{pos:Pos}{fl:FD}
noncomputable def GU(fl:FD):AB:=λρ=>(fl ρ).map λxs=>.ro<|.l xs
def zT5(he:SF X e fl):SS X (.Return (some e) pos) (GU fl):=zf (iY he) λQ σ H=>by
 rintro⟨G0,H0,G,ρ,o,st,z,k⟩;let(xs,e1,rfl):=bA.mp z
 show#[G,ρ,xs,st.bs.gh,st.er,e1,λa vs G' H' t h1 h2 h3 r=>k a G' H' (st.bs.step t) #[vs,h3,r] λc m=>by
  cases gA.mp m;show#[h2,st.bs.hh.free h1]]
end
noncomputable def kW(K:Fg)(f:Ob->L D->Op (L D))(n:Nat):Sp:=λvs H Q _=>∃G x a ds ws xs,vs=.ref a::ws/\zO G H/\At K G H x a/\EA K G ds ws/\ds.length+1=n/\f x ds>xs /\
 ∀b us G' H',zM G H G' H'->H b=none->G' b=none->H' b>.lst us->EA K G' xs us->Q (.ref b) H'
noncomputable def uY:Out->Op (L D)
 |.ro (.l xs)=>some xs
 |_=>none
def zXW(N:L Str)(F:AB)(a:Addr)(x:Ob)(ds:L D):=((F<|(.b a x::ds.map Sl.v)++nA (N.length-(ds.length+1)) .un).bind uY:Op (L D))
def zT6{P:F6}{w:F9}{K:Fg}{mg:AF}{base:Heap}{x qual:Str}{st:Stmt}{fa:Addr}{fd:K5}{N ps:L Str}{k:Nat}{F:AB}{f:Ob->L D->Op (L D)}
  (Y:XJ K x qual st fa fd) (S:yA N ps (zH st))
  (SD:∀(O:F3)(A:F8)(outer:L Env)(s:F2)(H:Hp),qB k (A.deeper<|N9 qual (zH st) s.heap.objs.size fa O)->pK (sO SH P w K mg base N qual (zH st) fa O A outer s H E0).nox (yI st) F)
  (hf:∀a y ds d,ds.length+1=ps.length->f y ds>d->zXW N F a y ds>d):PH P w K mg base SH (k+1) fa fd ps (kW K f ps.length):=by
 refine Y.ok S (λvs H Q E h=>?_) (λO A outer s H vs Q E hr h=>?_)
 .let(G,y,a,ds,ws,d,rfl,_,_,r,hn,_):=h;rw[sA,<- r.length,hn]
 .let(G,y,a,ds,ws,d,rfl,sm,U,r,hn,ef,kk):=h;have h1:=SD _ A outer s H hr;refine#[_,h1,?_];let(o,e1,J):=aA.mp<|hf a y ds d hn ef;have PM:Er K G H (.b a y::ds.map _) _:=i7 rfl #[#[U.rep,U.nd],rfl] U.fr r;have er:=PM.app (N.length-(ds.length+1)) (nA (N.length-(ds.length+1)) none) (by simp)
  have er:Er K G H ((.b a y::ds.map Sl.v)++nA (N.length-(ds.length+1)) .un) (L2.dM N (.ref a::ws)):=by
   rw[sU,sA,<- r.length];show er
  have xQ:∀(i:Nat)(u:Sl),((.b a y::ds.map Sl.v)++nA (N.length-(ds.length+1)) Sl.un)[i]?>u->u.isOwn=true->False:=λi u h1 h2=>by
   have hm:=xA h1;rcases pA.mp hm with m|m
   .rcases oA.mp m with z|m
    .subst z;cases h2
    .let(d',_,rfl):=QA.mp m;cases h2
   .rw[(NC.mp m).2]at h2;cases h2
  refine#[G,H,G,_,o,#[er,#[sm,zO.refl _,zO.refl _,λb o e n=>by rw[e]at n;cases n],λi u b h1 h2 h3=>(xQ i u h1 h2).elim],e1,?_]
  cases o with
  |ro s'=>
   cases s' with
   |l xs=>
    cases J
    showλb G' H' bs r' n=>let ⟨us,q1,q2⟩:=r';kk b us G' H' #[bs.gg,bs.hh,bs.gh,bs.fr] (n b<|gA.mpr rfl).2 (n b<|gA.mpr rfl).1 q1 q2
   |_=>cases J
  |rt d'=>cases J
  |nx ρ=>cases J
  |bk ρ=>cases J
  |ct ρ=>cases J
  |rm d ρ=>cases J
abbrev zXX(P w K mg base C k m n F):=Mt P w K mg base SH C k m<|kW K F n
def Ea(C:Addr)(m:Str)(i:Nat)(fl:FD)(F:Ob->L D->Op (L D)):=(λρ=>(eM ρ i).bind λx=>if fK C m x=true then (fl ρ).bind λds=>F x ds else none:FD)
section
variable {X:Cx}{o e:Expr}{es:L Expr}{pos apos:Pos}{C:Addr}{m:Str}{i k n:Nat}{F:Ob->L D->Op (L D)}{fl:FD}
def zT7(i:Nat)(h:zXX X.prog X.w X.K X.mg X.base C k m n F)(c:TH X.K C)(hr:qB k X.A)(ho:PE X o (qk i))(ha:SA X (e::es) fl)(hn:(e::es).length+1=n)(wI:wF X e es)(Y:aG X pos es) (ht:eval (.Call (.Attribute o m apos) (e::es) [] pos) X.env=(do
   let ov <- eval o X.env
   T9 apos.atName
   let (f,first) <- K8 [ov] (T7 ov m pl)
   au pos f first (N4 pos<|F7 (e::es) X.env) (T5 pos<|N0 [] X.env))) :
  SF X (.Call (.Attribute o m apos) (e::es) [] pos) (Ea C m i fl F):=by
 let(f,fd,ps,O,hm,hb):=h.ex;refine lF (Dm ho c hm O hr hb .nil FR ha.pa wI Y ht) λσ H Q zz=>?_
 let(G,ρ,d,s,er,z,kk):=zz;let(x,e1,z):=aA.mp z;split at z
 .rename_i hx;let(ds,J,e3):=aA.mp z;let(a,q1,A):=pU er e1;let(dx,ws,q2,q3):=eY A hx;refine#[_,q1,a,dx,ws,rfl,q2,q3,G,ρ,ds,s,er,J,λvs G' H' t r=>?_];change kW _ F n _ H' Q E0;rw[WA];show#[G',x,a,ds,vs,d,rfl,t.s,A.step t,r,by rw[ha.len _ _ J];show hn,e3,λb us U H2 t2 h1 h2 h3 r2=>kk b us U H2 (t.trans t2) (t.h.free h1) h2 h3 r2]
 .cases z
end
section
variable {X:Cx}{o:Expr}{es:L Expr}{pos p np gB:Pos}{fl:FD}{k n:Nat}{F:Ob->L D->Op (D×Ob)}{x:Str}{A B:L Stmt}{FA FB:AB}
end
noncomputable def IM{α:Type}(f:Addr->Op α):Op α:=by
 classical show if h:∃r,∀a,f a>r then some h.choose else none
def yc{z:Type}{f:Addr->Op z}{r:z}(h:∀a,f a>r):IM f>r:=by
 have e:∃r,∀a,f a>r:=#[r,h]
 unfold IM;rw[dif_pos e];have:=e.choose_spec 0;rw[h 0]at this;show this.symm
def yU{z:Type}{f:Addr->Op z}{r:z}(h:IM f>r):∀a,f a>r:=by
 unfold IM at h;split at h
 .rename_i e;cases h;show e.choose_spec
 .cases h
noncomputable def aW(i:Nat):QE:=λρ=>match ρ[i]? with
 |some (.v .non)=>some true
 |some (.o _ _)=>some false
 |_=>none
noncomputable def Sg(i:Nat):AB:=λρ=>match ρ[i]? with
 |some (.v d)=>some<|.rt d
 |some (.o c x)=>some<|.ro<|.o c x
 |_=>none
noncomputable def zXY(N:L Str)(F:XA->Op TF)(a:Addr)(x:Ob)(ds:L D):Op (Except Nat Ob):=(F<|(.o (some a) x::ds.map Sl.v)++nA (N.length-(ds.length+1)) .un).bind λo=>match o with
 |.o (.nx ρ)=>(xU a ρ).map .ok
 |.ex c=>some<|.error c
 |_=>none
noncomputable def fY(C:Addr)(i:Nat)(fl:FD)(F:Ob->L D->Op (Except Nat Ob))(cc:Nat)(Fh:AB):AB:=λρ=>(fl ρ).bind λds=>(F (.ins C []) ds).bind λr=>match r with
 |.ok x=>some<|.nx<|ρ.set i<|.o none x
 |.error c=>if c=cc then Fh ρ else none
noncomputable def c8(g:D->XA->Op XA)(f:XA->Op (Except Nat D)):L D->XA->Op (Except Nat<|L D)
 | [],_=>some<|.ok []
 |d::ds,ρ=>(g d ρ).bind λRE=>(f RE).bind λr=>match r with
  |.ok y=>(c8 g f ds ρ).map λq=>match q with
   |.ok ys=>.ok (y::ys)
   |.error c=>.error c
  |.error c=>some<|.error c
def jY(m:Nat)(fl:FD)(g:D->XA->Op XA)(f:XA->Op (Except Nat D)):=(λρ=>(fl ρ).bind λds=>if ds.length<=1000000 then c8 g f ds (ρ++nA m .un) else none:XA->Op (Except Nat<|L D))
noncomputable def B7(C:Addr)(i:Nat)(f:Str)(q:XA->Op (Except Nat<|L D)):XA->Op TF:=λρ=>(q ρ).bind λr=>match r with
 |.ok xs=>(mO C i f (.v<|.lst xs) ρ).map .o
 |.error c=>some<|.ex c
section
variable {X:Cx}{e o:Expr}{pos:Pos}{st:Stmt}
def zQB:SS X st (λ_=>none):=zf zPD λE σ H=>by rintro⟨_,_,_,_,_,_,z,_⟩;cases z
def zXZ(i:Nat){j}(J:PE X o (qk i))(hm:QB .Is (.Constant .none j np)=false):SB X (.Compare o [.Is] [.Constant .none j np] pos) (aW i):=
 EU (Dl zWH J zRl hm) λσ H Q=>by
  rintro⟨G,ρ,b,s,er,z,k⟩;unfold aW at z;split at z
  .rename_i q;cases z;let(v,q1,O):=er.val i _ q;subst O;show#[_,q1,G,ρ,.non,s,er,rfl,λv G' H' t r=>#[FP.mp r,true,by simp,k G' H' t]]
  .rename_i c x q;cases z;let(a,q1,_):=er.slot i _ q rfl;show#[_,q1,G,ρ,.non,s,er,rfl,λv G' H' t r=>#[FP.mp r,false,by simp,k G' H' t]]
  .cases z
def zQC(i:Nat)(he:PE X e (qk i)):SS X (.Return (some e) pos) (Sg i):=zf (iY he) λQ σ H=>by
 rintro⟨G0,H0,G,ρ,o,st,z,k⟩;unfold Sg at z;split at z
 .rename_i d q;cases z;let(v,q1,J):=st.er.val i d q;show#[v,q1,k v G H st.bs J]
 .rename_i c x q;cases z;let(a,q1,J,O):=st.er.slot i _ q rfl;show#[_,q1,k a G H st.bs J λc m=>#[O c m,st.ows i _ a q rfl q1 c m]]
 .cases z
end
section
variable {P:F6}{w:F9}{K:Fg}{mg:AF}{base:Heap}{N:L Str}{qual:Str}{scope:oE}{f:Addr}{cd:F3}{A:F8}{outer:L Env}{s₀:F2}{H₀:Hp}{E:XK}
def zLY:dh (F4 (UE P w K mg base N qual scope f cd A outer s₀ H₀ E).prog (UE P w K mg base N qual scope f cd A outer s₀ H₀ E).w) (UE P w K mg base N qual scope f cd A outer s₀ H₀ E).A (UE P w K mg base N qual scope f cd A outer s₀ H₀ E).env (UE P w K mg base N qual scope f cd A outer s₀ H₀ E).xe:=PassesOwn.leaving
end
def zFs{env z:Env}(h:env.frame=z.frame):bc e env=bc e z:=by
 unfold bc PySem.frameOf;rw[h]
section
variable {M:Model}{A:F8}{E:jD}{s:F2}{bs:Heap}{env:Env}{outer:L Env}{Lv e:Addr}{cls a0 fl:F3}
structure YS(bs:Heap)(l:List Env)(e:Addr)(cls a0 fl:F3)(h:Heap):Prop where
 st:bs.StaysIn h
 no:bs.get? e=none
 ff:h.FunFrames bs l
 tr:h.TracedAtW bs e cls a0 fl
def YS.mark{h:Heap}(x:YS bs l e cls a0 fl h):∃oe vs T U ts,h.get? e>oe/\(oe.cls=cls/\vs[0]?>a0)/\oe.data=.fields vs/\vs[1]?>.ref T/\T≠e/\h.get? T>U/\U.data=.fields ts/\3<ts.size/\ts[3]?>fl /\
  ∀u,YS bs l e cls a0 u (h.update T (tD (·.setIfInBounds 3 u)))/\∀b o,h.get? b>o->(∀q,o.data≠.fields q)->(h.update T (tD (·.setIfInBounds 3 u))).get? b>o:=by
 let(oe,vs,T,U,ts,g1,g2,g3,g4,g5,Y,g7,O,g9):=x.tr;have sz:=(IK.mp g9).1;refine#[oe,vs,T,U,ts,g1,g2,g3,g4,Y,g7,O,sz,g9,λu=>?_];have J:∀b,b≠T->(h.update T (tD (·.setIfInBounds 3 u))).get? b=h.get? b:=λb nb=>lC _ _ λz=>nb z.symm
 have nT:∀b o,h.get? b>o->(∀q,o.data≠.fields q)->b≠T:=λb o e n z=>by
  subst z;rw[g7]at e;cases e;show n _ O
 refine#[#[λb o e=>?_,x.no,x.ff.of_keeps λb o e n=>#[o,by rw[J b<|nT b o e n];show e,rfl],oe,vs,T,_,_,?_,g2,g3,g4,g5,Y,aC _ g7<|xH<|YD O _,YD O _,by simp[sz]],λb o e n=>by rw[J b<|nT b o e n];show e]
 .rw[J b λz=>by subst z;rw[g5]at e;cases e];show x.st b o e
 .rw[J e λz=>Y z.symm];show g1
def zI2{h:Heap}(x:h.FunFrames bs (l::outer)):h.FunFrames bs outer:=by
 let(_,_,k):=x;show k
theorem Zh{h h':Heap}:∀{l:L Env},(∀b o,b∈oH l->h.get? b>o->h'.get? b>o)->h.FunFrames bs l->h'.FunFrames bs l
 | [],_,_=>trivial
 |v::l,k,x=>by
  let(U,(z,o,J,Y,y3,y4),x3):=x
  show#[U,#[z,o,J,Y,k z o (aB.mpr #[v,eA ..,J]) y3,y4],Zh (λb o m=>k b o (by
   let(u,O,hf):=aB.mp m;show aB.mpr #[u,cA _ O,hf])) x3]
def zNR(lR:A.frames>(env::outer))(hf:env.frame>Lv)(x:YS bs (env::outer) e cls a0 fl s.heap){Q:Unit->F2->Prop}
  (hQ:∀h',QG bs outer e cls a0 h'->s.heap.UpToSlots h'->Q () { s with heap:=h' }):F5 M A (leaving env<|.ref e) Q E s:=by
 have land:∀(h1:Heap)(J:F3),YS bs (env::outer) e _ a0 J h1->s.heap.UpToSlots h1->F5 M A _ Q E { s with heap:=h1 }:=λh1 J y up=>
  wpAny_setFlight_noneW y.st y.ff y.tr λh' k1 k2 k3 k4=>hQ h' #[k1,y.no,zI2 k2,k3] (up.trans λb o z n=>#[o.slots,k4 b o z n])
 let(oe,vs,T,oT,ts,g1,g2,g3,O,g6,U,Y,sz,g9,mk):=x.mark;refine Ee ?_;unfold bc;dsimp[hf];refine Ee<|aj g1 g3 O ?_;refine Ee<|aj U Y g9 ?_;by_cases c:(fl==aa Lv)=true
 .rw[if_pos c];show F1<|land _ fl x<|PY _
 .rw[if_neg c];let(y,keep):=mk _;refine Ee<|K9 U Y sz ?_;have ge:(s.heap.update T (tD (·.setIfInBounds 3 .none))).get? e>oe:=by rw[lC _ _ g6];show g1
  refine wpAny_entryW lR y.ff hf ge y.st y.no g3 (IK.mp O).1 g2.2 λh' nt=>?_
  let(n1,n2,n3,n4):=nt;rw[g2.1]at n3;show land h' _ #[n1,y.no,n2,n3] λb o z n=>n4 b o (keep b o z n) n
def zQE{O:Type}(x:YS bs l e cls a0 fl s.heap){Q:O->F2->Prop}(hE:∀h' z,YS bs l e cls a0 z h'->(∀b o,s.heap.get? b>o->(∀q,o.data≠.fields q)->h'.get? b>o)->E (.ref e) { s with heap:=h' }):F5 M A (PySem.passOn Md (.ref e) dN:Sem O) Q E s:=by
 let(oe,vs,T,oT,ts,g1,g2,g3,J,g6,U,Y,sz,g9,mk):=x.mark;refine Ee<|aj g1 g3 J ?_;refine Ee ?_;refine Ee<|aj g1 g3 J ?_;refine K9 U Y sz<|eh ?_;let(y,keep):=mk _;show hE _ _ y keep
end
noncomputable def JS(g:D->XA->Op XA)(p:QE)(f:XA->Op (Except Nat D)):L D->XA->Op (Except Nat<|L D)
 | [],_=>some<|.ok []
 |d::ds,ρ=>(g d ρ).bind λRE=>(p RE).bind λb=>if b=true then (f RE).bind λr=>match r with
   |.ok y=>(JS g p f ds ρ).map λq=>match q with
    |.ok ys=>.ok (y::ys)
    |.error c=>.error c
   |.error c=>some<|.error c
  else JS g p f ds ρ
theorem zJ1{g:D->XA->Op XA}{f:XA->Op (Except Nat D)}:∀ds:L D,JS g (λ_=>some true) f ds ρ=c8 g f ds ρ
 | []=>rfl
 |d::ds=>by
  rw[JS,zJ1 ds];rfl
theorem Pj{g:D->XA->Op XA}{p:QE}{f:TB}:∀{ds ys:L D},zF g p f ds ρ>ys->JS g p (λρ=>(f ρ).map .ok) ds ρ>.ok ys
 | [],_,h=>by cases h;rfl
 |d::ds,ys,h=>by
  let(O,e1,h):=aA.mp h;let(b,z,h):=aA.mp h;rw[JS,e1,dA,z,dA]
  cases b with
  |false=>show Pj h
  |true=>
   rw[if_pos rfl]at h ⊢;let(x,e3,h):=aA.mp h;let(zs,J,rfl):=bA.mp h;rw[e3,VA,dA];dsimp[Pj J,VA]
noncomputable def xS(zs:L D):Except Nat (L D)->Except Nat (L D)
 |.ok ys=>.ok<|zs++ys
 |.error c=>.error c
section
variable {X:Cx}{tg iter elt:Expr}{scope:oE}{pos:Pos}{nm:L Str}{fl:FD}{gd:D->XA->Op XA}{f:XA->Op (Except Nat D)}{κ:Nat->Addr}{W:XK}
inductive LI(K:Fg)(Y:Cx)(gd:D->XA->Option XA)(p:QE)(f:XA->Option (Except Nat D))(ds:List D)(ρ:XA)(r:Except Nat (List D))(tn:Nat->Heap->Prop)(fp:List Addr)(G H:Hp)(a:Addr)(n:Nat)(s:F2):Prop
 |mk i σ H1 G1 zs vs rest:n=ds.length-i->i<=ds.length->Inv Y [] σ H1 s->tn i s.heap->(∀b∈fp,H1 b=none)->zM G H G1 H1->Er K G1 H1 ρ σ->iK H1 ρ σ a->G1 a=none->H1 a>.lst vs->EA K G1 zs vs->zs.length<=i->JS gd p f (ds.drop i) ρ>rest->r=xS zs rest->LI K Y gd p f ds ρ r tn fp G H a n s
def jp{p:QE}{s:F2}{ds:L D}{tn:Nat->Heap->Prop}{E:jD}{RR:F3->Addr->dr->F2->Prop}(hc:X.calm=true)(hk:scope.kind=.function)(hok:HN X.N nm scope.names X.env.scope.names=true)(vM:JP X.N.length gd)(hg:∀C U OC ex,SG (zT X nm scope C U OC ex) tg gd)(ht:∀C U OC ex,XR (zT X nm scope C U OC ex) ifs p)(he:∀(C:Addr)(U:F2)(OC:Hp)(ex:L Addr)(EE:jD),IP (EJ X.prog X.w) ((zT X nm scope C U OC ex).wish EE) W->PE ((zT X nm scope C U OC ex).wish EE) elt (nW X.K κ W f))(hex:∀u o H',W u o H'->X.ex=[])(I:Inv X pins σ H s)(T:VS X.prog X.w X.K tg J fp it tn)(h0:tn 0 s.heap)(aO:∀b∈fp,EH X pins H b)(sm:zO G H)(er:Er X.K G H ρ σ)(AM:bP X.K G J ds)(hl:ds.length<=10000000)(Jk:JS gd p f ds (ρ++nA nm.length .un)>r)(hW:∀c,r=.error c->∀G' H',zM G H G' H'->W (.ref<|κ c) none H') (Hu:∀ys,r=.ok ys->∀(D C:Addr)(s':F2)(H' G':Hp)(vs:L V)(m':AF),Inv X pins σ H' s'->zM G H G' H'->H D=none->G' D=none->H' D>.lst vs->EA X.K G' ys vs->s'.heap.Ns C m'->H' C=none->C≠X.env.locals ->
   X.s₀.heap.objs.size<=C->(∀x c,X.env.cells.lookup x>c->c≠C)->(∀p∈X.pn++pins,p.1≠C)->RR (.ref D) C (.ok .next) s') (Hr:∀(acc:F3)(C:Addr)(s':F2)(H':Hp)(x T' C0:Addr)(m':AF),Inv X pins σ H' s'->eV X.stack x T' (.ref C0) s'.heap->X.s₀.heap.get? x=none->X.s₀.heap.get? T'=none->H' x=none->H' T'=none->W (.ref C0) none H'->s'.heap.Ns C m'->H' C=none->C≠X.env.locals ->
   X.s₀.heap.objs.size<=C->(∀x c,X.env.cells.lookup x>c->c≠C)->(∀p∈X.pn++pins,p.1≠C)->x≠C->T'≠C->bq (F4 X.prog X.w) X.A (du scope (OL scope.names X.env.cells) C X.env) (λe rR=>RR acc C (.error e) rR) (.ref x) s') :
  F5 (F4 X.prog X.w) X.A (newList []) (λacc U=>F5 (F4 X.prog X.w) X.A (newFunctionEnv scope X.env.globals (OL scope.names X.env.cells) [] X.env.qual none .none<|some X.env) (λdN OJ=>
   pE (F4 X.prog X.w) X.A (.compStart (.ListComp elt [#[tg,iter,ifs,0]] scope pos) 0 (.ref it) acc { dN with scope:=relabel scope X.env }) (RR acc dN.locals) OJ) E U) E s:=by
 have XT:∀b∈fp,b<s.heap.objs.size:=λb hb=>by
  let(o,e,_):=T.obj 0 s.heap h0 b hb;show CA e
 refine K2 ?_;have VI:Inv X pins σ (upd H s.heap.objs.size<|.lst []) { s with heap:=s.heap.push { cls:=.type "list",data:=.seq ([]:L F3).toArray } }:=I.lnew (t':=s.toks) (ys:=[]) (its:=[]) .nil<|LB _;have nD:H s.heap.objs.size=none:=I.fresh;generalize hU:({ s with heap:=s.heap.push { cls:=.type "list",data:=.seq ([]:L F3).toArray } }:F2)=U at VI|-;have Je:U.heap.objs.size=s.heap.objs.size+1:=by rw[<- hU];show MD ..
 have JV:∀b∈fp,EH X pins (upd H s.heap.objs.size<|.lst []) b:=λb hb=>#[by rw[zD<|GA<|XT b hb];show(aO b hb).1,(aO b hb).2]
 have Ip:∀b∈fp,b<U.heap.objs.size:=λb hb=>by rw[Je];show oG<|XT b hb
 have DP:tn 0 U.heap:=T.keep 0 s.heap _ h0 λb hb o e=>by rw[<- hU];show jA _ e
 refine wpAny_newFunctionEnv (λy hy=>(zo hok hy).1) (by intro y hy;simp at hy) (λeG RV WV=>?_) hk;have keep:∀b o,U.heap.get? b>o->eG.get? b>o:=λb o e=>WV.extBut b o (GA<|CA e)<|jA _ e
 have I4:=zLJ (nm:=nm) (scope:=scope) (tk:=U.toks+([]:L (Str×F3)).length) VI hk hok JV Ip RV keep;have Lf:tn 0 eG:=T.keep 0 _ _ DP λb hb o e=>keep b o e
 generalize V0:({ U with heap:=eG,toks:=U.toks+([]:L (Str×F3)).length }:F2)=OJ at I4;have Q4:tn 0 OJ.heap:=by rw[<- V0];show Lf
 change pE _ _ (.compStart _ 0 (.ref it) (.ref s.heap.objs.size)<|du scope (OL scope.names X.env.cells) U.heap.objs.size X.env) (RR (.ref s.heap.objs.size) U.heap.objs.size) OJ
 have DV:∀b∈fp,EH (zT X nm scope U.heap.objs.size U (upd H s.heap.objs.size<|.lst []) fp) [] (upd H s.heap.objs.size<|.lst []) b:=λb hb=>
  #[(JV b hb).1,(I4.ok.exf b hb).1,λz=>I4.ok.exfs b hb z,.inl hb,(I4.ok.exf b hb).2,λp hp=>(by simp[zT]at hp)]
 have GN:∀{H':Hp},(∀b∈fp,H' b=none)->∀b∈fp,EH (zT X nm scope U.heap.objs.size U (upd H s.heap.objs.size<|.lst []) fp) [] H' b:=λhn b hb=>#[hn b hb,(DV b hb).2]
 have hr:ρ.length=X.N.length:=by rw[er.len,I.len]
 have loop:pE (F4 X.prog X.w) X.A (.compLoop (.ListComp elt [#[tg,iter,ifs,0]] scope pos) 0 (.ref it) (.ref s.heap.objs.size)<|du scope (OL scope.names X.env.cells) U.heap.objs.size X.env) (RR (.ref s.heap.objs.size) U.heap.objs.size) OJ:=by
  refine zHm (LI X.K (zT X nm scope U.heap.objs.size U (upd H s.heap.objs.size<|.lst []) fp) gd p f ds (ρ++nA nm.length .un) r tn fp G H s.heap.objs.size) ?_ ds.length
   #[0,_,_,G,[],[],r,by simp,LB _,I4,Q4,λb hb=>(JV b hb).1,zM.newH sm nD,(er.step<|zM.newH sm nD).app nm.length _ (by simp),((iK.new er nD).grow er<|yB nD).app er,sm.free nD,HA,EA.nil,wA _,‹Jk›,by cases r<;>rfl]
  rintro n s5 ⟨i,LR,H5,G5,zs,vs,rest,rfl,hi,I5,cM,p9,t5,Vo,nd5,Vv,A9,Y9,lz5,mM,CZ⟩;by_cases cJ:i<ds.length
  .have ed:ds.drop i=ds[i]::ds.drop (i+1):=sE cJ;rw[ed]at mM;let(aT,e6,mM):=aA.mp mM;let(b6,e7,mM):=aA.mp mM;refine K0 (T.item (zT X nm scope U.heap.objs.size U (upd H s.heap.objs.size<|.lst []) fp) rfl rfl rfl hc i [] s5 LR H5 (bq (F4 X.prog X.w) X.A _ λe s'=>RR (.ref s.heap.objs.size) U.heap.objs.size (.error e) s') I5 (GN p9) cM<|AM.go i H5 (t5.g.trans t5.s) cJ) (λr s6 zz=>?_) λ_ _ z=>z
   let(u,Ja,h6):=zz;subst Ja;refine K0 h6 (λ_ s7 zz=>?_) λ_ _ z=>z
   let(x7,H7,I7,rx7,y7,Lg,fr7):=zz;let(G7,t7,r7):=AM.yld i G5 H5 x7 H7 t5.g t5.s cJ y7;have I7':=I7.pinned (GN fr7)<|T.obj _ _ Lg;have Vp:=Vo.step t7;have hx:(zT X nm scope U.heap.objs.size U (upd H s.heap.objs.size<|.lst []) fp).xe=λ_ _=>False:=rfl
   let(k1,k2,k3):=vM _ _ _ e6;rw[<- hr]at k2;have nd7:=nd5.grow Vo t7.h
   have hgr:=hg U.heap.objs.size U (upd H s.heap.objs.size<|.lst []) fp _ s7 LR H7 x7 u (λfP H8=>H8=H7/\Er X.K G7 H7 aT fP/\iK H7 aT fP s.heap.objs.size) I7' rx7
    #[G7,zn H7 _ LR,G7,_,ds[i],aT,Vp.toSt t7.s,r7 _ (by simp[cJ]),e6,λfP Xl=>#[rfl,Xl.er,zPg Vp nd7 Xl k3<|t7.h _ _ A9]]
   refine K0 hgr (λ_ s8 q9=>?_) λ_ _ z=>(by rw[hx]at z;show z.elim)
   let(fP,H8,I8,e8,aS,Wz):=q9;subst e8
   have again:∀{G9 H9:Hp}{s9:F2}{G8:L D}{vs':L V}{cL:Except Nat (L D)},Inv (zT X nm scope U.heap.objs.size U (upd H s.heap.objs.size<|.lst []) fp) ([]++Ec fp s7.heap) fP H9 s9->zM G H G9 H9->Er X.K G9 H9 aT fP->iK H9 aT fP s.heap.objs.size->G9 s.heap.objs.size=none->H9 s.heap.objs.size>.lst vs'->EA X.K G9 G8 vs' ->
     G8.length<=i+1->JS gd p f (ds.drop<|i+1) (ρ++nA nm.length .un)>cL->r=xS G8 cL->∃m,m<ds.length-i/\LI X.K (zT X nm scope U.heap.objs.size U (upd H s.heap.objs.size<|.lst []) fp) gd p f ds (ρ++nA nm.length .un) r tn fp G H s.heap.objs.size m s9:=λ{G9 H9 s9 G8 vs' cL} I9 t9 er9 n9 g9 h9 r9 l9 c9 y9=>by
    refine#[ds.length-(i+1),01,i+1,fP,H9,G9,G8,vs',cL,rfl,cJ,I9.unpinned,T.keep _ _ _ Lg λb hb o e=>(I9.pin (b,o)<|RA _<|RA _<|Bm hb e).1,λb hb=>?_,t9,er9.drop k1 k2,n9.drop k2,g9,h9,r9,l9,c9,y9];let(o,e,d):=T.obj _ _ Lg b hb;show(I9.pin (b,o)<|RA _<|RA _<|Bm hb e).2.1
   refine zMt (X:=zT X nm scope U.heap.objs.size U (upd H s.heap.objs.size<|.lst []) fp) hx (ht U.heap.objs.size U (upd H s.heap.objs.size<|.lst []) fp) I8 t7.s aS e7 λG9 H9 s9 I9 t9=>?_
   have tt:=(t5.trans t7).trans t9
   have Vw:G9 s.heap.objs.size=none:=by
    cases q:G9 s.heap.objs.size with
    |none=>rfl
    |some o=>
     show(Ut.not #[_,A9,nofun]<|(t7.trans t9).f _ o q Vv).elim
   have Hq:H9 s.heap.objs.size>.lst vs:=(t7.trans t9).h _ _ A9
   cases b6 with
   |false=>
    rw[if_neg CB]at mM ⊢
    show again I9 tt (aS.step t9) (Wz.grow aS t9.h) Vw Hq (EA.mono (t7.trans t9).g _ _ Y9) 01 mM CZ
   |true=>
   rw[if_pos rfl]at mM ⊢;let(rr,Vm,mM):=aA.mp mM;have hP:IP (EJ X.prog X.w) ((zT X nm scope U.heap.objs.size U (upd H s.heap.objs.size<|.lst []) fp).wish λe s'=>∃YH ZC Hs s0,Inv (zT X nm scope U.heap.objs.size U (upd H s.heap.objs.size<|.lst []) fp) YH ZC Hs s0/\EJ X.prog X.w X.stack Hs s0 W e s') W:=λYH ZC Hs s0 e s' J h=>#[YH,ZC,Hs,s0,J.unwish,h]
   have FX:=he U.heap.objs.size U (upd H s.heap.objs.size<|.lst []) fp _ hP
   have bad:∀e s',(∃YH ZC Hs s0,Inv (zT X nm scope U.heap.objs.size U (upd H s.heap.objs.size<|.lst []) fp) YH ZC Hs s0/\EJ X.prog X.w X.stack Hs s0 W e s')->bq (F4 X.prog X.w) X.A (du scope (OL scope.names X.env.cells) U.heap.objs.size X.env) (λe rR=>RR (.ref s.heap.objs.size) U.heap.objs.size (.error e) rR) e s':=λe s' z=>by
    let(YH,ZC,Hs,s0,J0,x,T',C0,H',rfl,os,bare,un,dJ,iQ,nx,nT,R9,Hv,hE):=z;have ET:Inv X pins σ Hs s0:=VI.call' (ch:=fp) J0.os J0.base J0.hok J0.bare λb hb=>#[(aO b hb).2.2.2.1,(aO b hb).2.1,(aO b hb).2.2.2.2.1,(aO b hb).2.2.2.2.2]
    have fV:Inv X pins σ H' s':=ET.call' os un dJ bare λb m=>absurd m (by simp)
    have J1:Inv (zT X nm scope U.heap.objs.size U (upd H s.heap.objs.size<|.lst []) fp) YH ZC H' s':=J0.call' os un dJ bare λb m=>absurd m (by simp)
    let(m0,Wk,_):=J0.loc;let(m1,O0,_):=J1.loc;have there:∃o,s0.heap.get? U.heap.objs.size>o:=by let(o,_,_,q,_):=Wk;show#[o,q]
    let(oC,w9):=there
    have old:∀b,s0.heap.get? b=none->X.s₀.heap.get? b=none:=λb n=>by
     cases q:X.s₀.heap.get? b with
     |none=>rfl
     |some o=>
      let(o',q'):=ET.base.there b o q (by rw[hex _ _ _ hE];simp);rw[n]at q';cases q'
    show Hr (.ref s.heap.objs.size) U.heap.objs.size s' H' x T' C0 m1 fV iQ (old x nx) (old T' nT) R9 Hv hE O0 J1.free (ZE VI.lt) VI.sz (λx c e=>GA (by let(v,q):=VI.cell x c e;show q.lt)) (λp hp=>GA<|CA (VI.pin p hp).1) (λz=>by subst z;rw[nx]at w9;cases w9) (λz=>by subst z;rw[nT]at w9;cases w9)
   cases rr with
   |error c=>
    dsimp[DF]at mM;have uV:r=.error c:=by rw[CZ,<- mM];rfl
    have FX:=FX _ s9 fP H9 (λ_ _=>False) (I9.wish _) #[G9,aT,_,t9.s,aS.step t9,Vm,λG' H' t=>hW c uV G' H'<|tt.trans t];refine K0 FX (λuy s10 ⟨vy,DT,d9,Xj,z⟩=>z.elim) λe s' z=>?_
    show bad e s' z
   |ok y=>
    let(cL,e11,mM):=bA.mp mM;have FX:=FX _ s9 fP H9 (λv H'=>∃G',zM G9 H9 G' H'/\Rep X.K G' y v) (I9.wish _) #[G9,aT,_,t9.s,aS.step t9,Vm,λv G' H' t r=>#[G',t,r]];refine K0 FX (λuy s10 ⟨vy,DT,d9,Xj,ZY,lU,ry⟩=>?_) λe s' z=>?_
    .have d9:=d9.unwish
     have GZ:ZY s.heap.objs.size=none:=by
      cases q:ZY s.heap.objs.size with
      |none=>rfl
      |some o=>
       show(Ut.not #[_,Hq,nofun]<|lU.f _ o q Vw).elim
     have Ho:DT s.heap.objs.size>.lst vs:=lU.h _ _ Hq;have sW:=tt.trans lU;have lv:vs.length=zs.length:=Y9.length.symm
     have hap:=AW (X:=zT X nm scope U.heap.objs.size U (upd H s.heap.objs.size<|.lst []) fp) _ s10 fP DT (.ref s.heap.objs.size) [vy] (.ref s.heap.objs.size) [uy] (λ_ H'=>H'=upd DT s.heap.objs.size (.lst<|vs++[vy])) d9 rfl (.cons Xj .nil)
      #[s.heap.objs.size,vs,vy,rfl,rfl,Ho,BA (by omega:vs.length<10000001)<|02,rfl]
     refine K0 hap (λ_ s11 q9=>?_) λ_ _ z=>(by rw[hx]at z;show z.elim)
     let(_,H11,I11,_,Gx):=q9;subst Gx
     have sG:zO ZY (upd DT s.heap.objs.size<|.lst<|vs++[vy]):=λb o e=>by
      rw[zD (λz=>by rw[z,GZ]at e;cases e)];show lU.s b o e
     have t11:zM G H ZY (upd DT s.heap.objs.size<|.lst<|vs++[vy]):=#[sW.g,λb o e=>by rw[zD<|yH e nD];show sW.h b o e,sG,sW.f]
     have J2:iK DT aT fP s.heap.objs.size:=(Wz.grow aS t9.h).grow (aS.step t9) lU.h;have He:Er X.K ZY (upd DT s.heap.objs.size<|.lst<|vs++[vy]) aT fP:=((aS.step t9).step lU).updOther J2;show again I11 t11 He (J2.upd<|(aS.step t9).step lU) GZ HA ((EA.mono ((t7.trans t9).trans lU).g _ _ Y9).append<|EA.cons ry EA.nil) (by dsimp[OA,sA,aE];omega) e11 (by rw[CZ,<- mM];cases cL<;>simp[xS])
    .show bad e s' z
  .have e:i=ds.length:=01
   subst e;rw[xJ]at mM;cases mM;dsimp[xS,WA]at CZ;refine K0 (T.done (zT X nm scope U.heap.objs.size U (upd H s.heap.objs.size<|.lst []) fp) rfl rfl rfl hc _ [] s5 LR H5 (bq (F4 X.prog X.w) X.A _ λe s'=>RR (.ref s.heap.objs.size) U.heap.objs.size (.error e) s') I5 (GN p9) cM<|AM.stop _ H5 (t5.g.trans t5.s)<|wA _) (λr s6 zz=>?_) λ_ _ z=>z
   let(Ja,I6):=zz;subst Ja;have fV:Inv X pins σ H5 s6:=VI.call' (ch:=fp) I6.os I6.base I6.hok I6.bare λb hb=>#[(aO b hb).2.2.2.1,(aO b hb).2.1,(aO b hb).2.2.2.2.1,(aO b hb).2.2.2.2.2]
   let(m6,hn6,_):=I6.loc;show Hu zs CZ s.heap.objs.size U.heap.objs.size s6 H5 G5 vs m6 fV t5 nD Vv A9 Y9 hn6 I6.free (ZE VI.lt) VI.sz (λx c e=>GA (by let(v,q):=VI.cell x c e;show q.lt)) λp hp=>GA<|CA (VI.pin p hp).1
 show codeAny_compStart_list loop<|T.self _ 0 OJ _ _ Q4 loop
def Nu{p:QE}{f:TB}{s:F2}{ds ys:L D}{tn:Nat->Heap->Prop}{E:jD}{RR:F3->Addr->dr->F2->Prop}(hc:X.calm=true)(hk:scope.kind=.function)(hok:HN X.N nm scope.names X.env.scope.names=true)(vM:JP X.N.length gd)(hg:∀C O U ex,SG (zT X nm scope C O U ex) tg gd)(ht:∀C O U ex,XR (zT X nm scope C O U ex) ifs p)(he:∀C O U ex,SE (zT X nm scope C O U ex) elt f)(I:Inv X pins σ H s)(T:VS X.prog X.w X.K tg J fp it tn)(h0:tn 0 s.heap)(aO:∀b∈fp,EH X pins H b)(sm:zO G H)(er:Er X.K G H ρ σ)(AM:bP X.K G J ds)(hl:ds.length<=10000000)(Jk:zF gd p f ds (ρ++nA nm.length .un)>ys) (Hu:∀(D C:Addr)(s':F2)(H' G':Hp)(vs:L V)(m':AF),Inv X pins σ H' s'->zM G H G' H'->H D=none->G' D=none->H' D>.lst vs->EA X.K G' ys vs->s'.heap.Ns C m'->H' C=none->C≠X.env.locals ->
   X.s₀.heap.objs.size<=C->(∀x c,X.env.cells.lookup x>c->c≠C)->(∀p∈X.pn++pins,p.1≠C)->RR (.ref D) C (.ok .next) s') :
  F5 (F4 X.prog X.w) X.A (newList []) (λacc O=>F5 (F4 X.prog X.w) X.A (newFunctionEnv scope X.env.globals (OL scope.names X.env.cells) [] X.env.qual none .none<|some X.env) (λY OJ=>
   pE (F4 X.prog X.w) X.A (.compStart (.ListComp elt [#[tg,iter,ifs,0]] scope pos) 0 (.ref it) acc { Y with scope:=relabel scope X.env }) (RR acc Y.locals) OJ) E O) E s:=by
 refine jp (κ:=λ_=>0) (W:=λ_ _ _=>False) hc hk hok vM hg ht (λC O U ex EE _=>?_) (λ_ _ _ z=>z.elim) I T h0 aO sm er AM hl (Pj Jk) (λc z=>by cases z) (λAh z=>by cases z;show Hu) λ_ _ _ _ _ _ _ _ _ _ _ _ _ _ z=>z.elim
 intro pins s σ H Q I h;let(G,ρ,r,s',er,ef,k):=h;let(d,e1,rfl):=bA.mp ef;show K0 (he C _ _ ex _ s σ H Q I.unwish #[G,ρ,d,s',er,e1,k]) (λu s2 ⟨v,H2,I2,q⟩=>#[v,H2,I2.wish _,q]) λ_ _ z=>z.elim
end
noncomputable def tCF(K:Fg)(κ:Nat->Addr)(W:XK)(g:XA->Op (Except Nat<|L D)):TE:=λσ H Q=>∃G ρ r,zO G H/\Er K G H ρ σ/\g ρ>r/\match r with
 |.ok ys=>∀a vs G' H',zM G H G' H'->H a=none->G' a=none->H' a>.lst vs->EA K G' ys vs->Q (.ref a) H'
 |.error c=>∀G' H',zM G H G' H'->W (.ref<|κ c) none H'
section
variable {P:F6}{w:F9}{K:Fg}{mg:AF}{base:Heap}{N:L Str}{qual:Str}{NH:oE}{fa:Addr}{cd:F3}{A:F8}{outer:L Env}{s₀:F2}{H₀:Hp}{E:XK}{tg iter elt o:Expr}{scope:oE}{pos pos' CK:Pos}{nm:L Str}{fl:FD}{gd:D->XA->Op XA}{g:XA->Op (Except Nat D)}{κ:Nat->Addr}{C:Addr}{fld:Str}
def zQF(hm:nm.length=m)(hk:scope.kind=.function)(hok:HN N nm scope.names NH.names=true)(hi:SI (UE P w K mg base N qual NH fa cd A outer s₀ H₀ E) tg iter fl)(vM:JP N.length gd)(hg:∀C iB OC ex,SG (zT (UE P w K mg base N qual NH fa cd A outer s₀ H₀ E) nm scope C iB OC ex) tg gd)(he:∀(C:Addr)(iB:F2)(OC:Hp)(ex:L Addr)(EE:jD),IP (EJ P w) ((zT (UE P w K mg base N qual NH fa cd A outer s₀ H₀ E) nm scope C iB OC ex).wish EE) E->PE ((zT (UE P w K mg base N qual NH fa cd A outer s₀ H₀ E) nm scope C iB OC ex).wish EE) elt (nW K κ E g))(hs:∀x,IC iter (UE P w K mg base N qual NH fa cd A outer s₀ H₀ E).env x=pure x):PE (UE P w K mg base N qual NH fa cd A outer s₀ H₀ E) (.ListComp elt [#[tg,iter,[],0]] scope pos) (tCF K κ E<|jY m fl gd g):=by
 intro pins s σ H Q I h;obtain⟨G,ρ,r,sm,er,ef,k⟩:=h;obtain⟨ds,e1,e2⟩:=aA.mp ef;split at e2
 .rename_i hl;subst hm;have dJ:=hok;have KJ:=Ai λy hy hf=>I.ok.has y.1 ((zo dJ hy).2.2.2 hf)
  rw[eval_ListComp];refine af (use:=none) rfl hs KJ hk (λy hy=>(zo dJ hy).2.2.1) (iD (hi pins s σ H _ I #[G,ρ,ds,sm,er,e1,λJ G' H' t it=>(#[G',t,it]:∃G',zM G H G' H'/\bP K G' J ds)]) λv s1 h1=>iD h1 λP1 s2 h2=>?_);obtain⟨it,fp,tn,J,H2,rfl,I2,T,ZH,f2,G2,t2,O1⟩:=h2;refine jp (X:=(UE P w K mg base N qual NH fa cd A outer s₀ H₀ E)) (W:=E) (κ:=κ) rfl hk dJ vM hg (λ_ _ _ _=>.inl #[rfl,rfl]) he (λ_ _ _ _=>rfl) I2 T ZH f2 t2.s (er.step t2) O1 (JA hl<|02) ((zJ1 ds).trans e2) (λc hc G' H' t=>?_) (λys hy D C s' H' G' vs m' Y t' nD gD hD rD hn kQ iR jR dS RT=>?_) λacc C s' H' x T' C0 m' Y iQ nx nT hx hT hE hn kQ iR jR dS RT xC TC=>?_
  .subst hc;show k G' H'<|t2.trans t
  .subst hy;refine#[m',hn,λh' uQ=>#[.ref D,H',?_,rfl,k D vs G' H' (t2.trans t') (t2.h.free nD) gD hD rD]];show Y.turned (t':=s'.toks) (λb o hb e=>uQ.extBut b o hb e) kQ iR (.inr jR) dS RT
  .obtain⟨a0,f1,f2',f3,f4⟩:=iQ;have NT:=Y.ok.frames;have f3':s'.heap.FunFrames (wC s'.heap (C::x::T'::oH (UE P w K mg base N qual NH fa cd A outer s₀ H₀ E).stack)) ((UE P w K mg base N qual NH fa cd A outer s₀ H₀ E).env::outer):=vG f3 λenv he a ha=>cA _ (cA _<|cA _<|aB.mpr #[env,he,ha])
   obtain⟨oe,vs,T2,oT,ts,g1,g2,g3,g4,g5,g6,g7,g8,g9⟩:=f4
   have eT:(wC s'.heap (C::x::T'::oH (UE P w K mg base N qual NH fa cd A outer s₀ H₀ E).stack)).get? T2=none:=by
    cases q:(wC s'.heap (C::x::T'::oH (UE P w K mg base N qual NH fa cd A outer s₀ H₀ E).stack)).get? T2 with
    |none=>rfl
    |some o=>
     exfalso
     have m2:T2∉x::T'::oH (UE P w K mg base N qual NH fa cd A outer s₀ H₀ E).stack:=λz=>by
      rw[DD _<|cA _ z]at q;cases q
     rw[ID _ g7 m2]at g5;cases g5
   have L1:YS _ ((UE P w K mg base N qual NH fa cd A outer s₀ H₀ E).env::outer) x (.ref C0) a0 .none s'.heap:=
    #[λb o e=>KF _ e,DD _ (by simp),f3',oe,vs,T2,oT,ts,g1,g2,g3,g4,eT,g6,g7,g8,g9]
   change F5 (F4 P w) (UE P w K mg base N qual NH fa cd A outer s₀ H₀ E).A (bc (.ref x) _) _ _ s';rw[show bc (.ref x) (du scope (OL scope.names (UE P w K mg base N qual NH fa cd A outer s₀ H₀ E).env.cells) C (UE P w K mg base N qual NH fa cd A outer s₀ H₀ E).env)=bc (.ref x) (UE P w K mg base N qual NH fa cd A outer s₀ H₀ E).env from zFs rfl];refine OM NT (L:=s₀.heap.objs.size) rfl #[L1.st,L1.no,L1.ff,L1.tr] λh1 held up1=>?_
   refine#[m',up1.ns hn,λh2 sb dN Ic=>?_];have U:∀b o,b≠C->h1.get? b>o->h2.get? b>o:=λb o nb e=>sb.extBut b o nb e
   obtain⟨w1,w2,w3,oe1,jL,T1,oT1,ts1,y1,y2,y3,y4,y5,y6,y7,y8,y9⟩:=held;have bC:(wC s'.heap (C::x::T'::oH (UE P w K mg base N qual NH fa cd A outer s₀ H₀ E).stack)).get? C=none:=DD _ (by simp)
   have T1C:T1≠C:=λz=>by
    subst z;obtain⟨oc,_,_,q1,q2,_⟩:=up1.ns hn;rw[y7]at q1;cases q1;rw[y8]at q2;cases q2
   have Vt:C∉oH (UE P w K mg base N qual NH fa cd A outer s₀ H₀ E).stack:=λz=>by
    rcases aB.mp z with⟨env,he,hf⟩
    rcases oA.mp he with rfl|he
    .show iR (KB hf).symm
    .obtain⟨_,o,q,_⟩:=Y.ok.funs.mem<|aB.mpr #[env,he,hf];show absurd (BA (CA q) jR)<|RC _
   have L2':YS _ ((UE P w K mg base N qual NH fa cd A outer s₀ H₀ E).env::outer) x (.ref C0) a0 (aa s₀.heap.objs.size) h2:=
    #[λb o e=>U b o (λz=>by subst z;rw[bC]at e;cases e)<|w1 b o e,L1.no,Zh (λb o m e=>U b o (λz=>Vt<|z ▸ m) e) w3,oe1,jL,T1,oT1,ts1,U x _ xC y1,y2,y3,y4,y5,y6,U T1 _ T1C y7,y8,y9]
   refine zQE (s:={ s' with heap:=h2 }) L2' λh3 fl3 L3 X1=>?_
   refine zNR (s:={ s' with heap:=h3 }) NT (Lv:=s₀.heap.objs.size) rfl L3 λh4 Hg uW=>?_
   refine zM7 (s:=s') Y (λb m=>?_) Hg (λb m o e n=>?_) nx hx hE
   .rcases oA.mp m with rfl|m
    .show .inr #[by
      cases q:s₀.heap.get? b with
      |none=>rfl
      |some o=>show absurd (BA (CA q) jR)<|RC _,kQ]
    rcases oA.mp m with rfl|m
    .show .inr #[nx,hx]
    rcases oA.mp m with rfl|m
    .show .inr #[nT,hT]
    .show .inl m
   .obtain⟨sl1,YJ⟩:=up1 b o e n;have bC':b≠C:=λz=>Vt (by subst z;show aB.mpr (by obtain⟨env,he,hf⟩:=aB.mp m;show#[env,cA _ he,hf]))
    have EO:=U b _ bC' YJ;have wZ:=X1 b _ EO n;obtain⟨sl4,e4'⟩:=uW b _ wZ n;show#[sl4,e4']
 .cases e2
def zQG(i:Nat)(c:TH K C)(n:ye K C fld)(ho:PE (UE P w K mg base N qual NH fa cd A outer s₀ H₀ E) o (qk i))(hm:(KI scope m).length=m)(hk:scope.kind=.function)(hok:HN N (KI scope m) scope.names NH.names=true)(hi:SI (UE P w K mg base N qual NH fa cd A outer s₀ H₀ E) tg iter fl)(vM:JP N.length gd)(hg:∀C U J ex,SG (zT (UE P w K mg base N qual NH fa cd A outer s₀ H₀ E) (KI scope m) scope C U J ex) tg gd)(he:∀(C:Addr)(U:F2)(J:Hp)(ex:L Addr)(Y:jD),IP (EJ P w) ((zT (UE P w K mg base N qual NH fa cd A outer s₀ H₀ E) (KI scope m) scope C U J ex).wish Y) E->PE ((zT (UE P w K mg base N qual NH fa cd A outer s₀ H₀ E) (KI scope m) scope C U J ex).wish Y) elt (nW K κ E g))(hs:∀x,IC iter (UE P w K mg base N qual NH fa cd A outer s₀ H₀ E).env x=pure x)(VH:dF (.ListComp elt [#[tg,iter,[],0]] scope pos) (some<|.Attribute o fld pos') CK.line (UE P w K mg base N qual NH fa cd A outer s₀ H₀ E).env=pure false):
  SX (UE P w K mg base N qual NH fa cd A outer s₀ H₀ E) κ E (.Assign [.Attribute o fld pos'] (.ListComp elt [#[tg,iter,[],0]] scope pos) CK) (B7 C i fld<|jY m fl gd g):=
 zf (Rq ho (zQF hm hk hok hi vM hg he hs) VH) λE' σ H=>by
  rintro⟨G0,H0,G,ρ,out,st,O,kk⟩;let(r,e1,O):=aA.mp O;refine#[G,ρ,r,st.bs.gh,st.er,e1,?_]
  cases r with
  |error c0=>
   cases O
   showλG' H' t=>kk G' H'<|st.bs.step t
  |ok ys=>
   let(o',m9,rfl):=bA.mp O;let(c',fs,hu,hl,hlen,rfl):=Pi m9;intro b vs G' H' t h1 h2 h3 rp;have t':=Ru t h1 h2 h3;have rep:=qD.mpr #[b,vs,rfl,vF.of HA,EA.mono (yB h2) _ _ rp];have AC:=st.step t';let(a,q1,q2,q3):=AC.er.slot i _ hu rfl;let(dx,ws,z1,z2,z3,z4,z5):=q2.1.1;show#[_,q1,a,C,dx,ws,rfl,z1,c,n,01,kk σ _ _<|AC.addL hu q1 z1 hl rep (by simp[tH]) λp m=>by cases m]
end
structure Left(G H G' H':Hp)(l:List Addr):Prop where
 g:zO G G'
 gh:zO G' H'
 fr:∀b o,G' b>o->G b=none->Nw H b\/b∈l
 h:∀b o,H b>o->b∉l->H' b>o
noncomputable def FY(K:Fg)(κ:Nat->Addr)(f:Ob->L D->Op (Except Nat Ob))(n:Nat):Sp:=λvs H Q E=>∃G x a ds ws r,vs=.ref a::ws/\zO G H/\At K G H x a/\EA K G ds ws/\ds.length+1=n/\f x ds>r/\match r with
 |.ok x'=>∀G' H',Gh K G H G' H' x x' a->Q .non H'
 |.error c=>∀G' H',Left G H G' H' (VD H x a)->E (.ref<|κ c) none H'
def zT8{P:F6}{w:F9}{K:Fg}{mg:AF}{base:Heap}{κ:Nat->Addr}{x qual:Str}{st:Stmt}{fa:Addr}{fd:K5}{N ps:L Str}{k:Nat}{F:XA->Op TF}{f:Ob->L D->Op (Except Nat Ob)}
  (FF:XJ K x qual st fa fd) (S:yA N ps (zH st))
  (SD:∀(U:F3)(A:F8)(outer:L Env)(s:F2)(H:Hp)(E:XK),qB k (A.deeper<|N9 qual (zH st) s.heap.objs.size fa U)->fQ (UE P w K mg base N qual (zH st) fa U A outer s H E) κ E (yI st) F)
  (hf:∀a y ds r,ds.length+1=ps.length->f y ds>r->zXY N F a y ds>r):PH P w K mg base (EJ P w) (k+1) fa fd ps (FY K κ f ps.length):=by
 let(oc,od,kV,doc,pm,an,U,ct,dO,rfl,lk,FL):=FF.ex;refine V7 lk FL S (λvs H Q E h=>?_) λA outer s H vs Q E hr h=>?_
 .let(G,y,a,ds,ws,y',rfl,_,_,r,hn,_):=h;rw[sA,<- r.length,hn]
 .let(G,y,a,ds,ws,res,rfl,sm,Y,r,hn,ef,kk):=h;refine#[_,SD U A outer s H E hr,?_];let(o,e1,J):=aA.mp<|hf a y ds res hn ef;have PM:Er K G H (.o (some a) y::ds.map Sl.v) ((V.ref a::ws).map some):=i7 rfl #[#[Y.rep,Y.nd],λc' e=>by cases e;rfl] Y.fr r;have er:=PM.app (N.length-(ds.length+1)) (nA (N.length-(ds.length+1)) none) (by simp);have es:L2.dM N (.ref a::ws)=(V.ref a::ws).map some++nA (N.length-(ds.length+1)) none:=by rw[sU,sA,<- r.length]
  have MJ:((V.ref a::ws).map some++nA (N.length-(ds.length+1)) none)[0]?>(some<|.ref a):=by simp
  have no:=λb=>Zg (H:=H) (x:=y) (ds:=ds) (m:=N.length-(ds.length+1)) (b:=b) MJ
  rw[es];refine#[G,zn H _ _,G,_,o,er.toSt sm,e1,?_]
  cases o with
  |ex c=>
   cases J;intro G' H' b;refine kk G' H' #[b.gg,b.gh,λd o e n=>?_,λd o e n=>b.hh d o (by rw[(no d).2 n];show e)];have z:=b.fr d o e n;unfold Nw at z;by_cases hb:d∈VD H y a
   .show .inr hb
   .rw[(no d).2 hb]at z;show .inl z
  |o out=>
   cases out with
   |nx ρ=>
    let(y',e3,rfl):=bA.mp J;clear J;unfold xU at e3;split at e3
    .rename_i c y1 q0;split at e3
     .rename_i hc;cases e3;subst hc;intro ZC G' H' AC;let(O,g1,g2,g3):=AC.er.slot 0 _ q0 rfl;have:O=a:=g2.2 a rfl;subst this;refine kk G' H' #[AC.bs.gg,AC.bs.gh,λb o e n=>?_,λb o e n=>AC.bs.hh b o (by rw[(no b).2 n];show e),#[g2.1.1,g2.1.2,g3],λc m=>?_]
      .have z:=AC.bs.fr b o e n;unfold Nw at z;by_cases hb:b∈VD H y O
       .show .inr hb
       .rw[(no b).2 hb]at z;show .inl z
      .have z:=AC.ows 0 _ O q0 rfl g1 c m;by_cases hb:c∈VD H y O
       .show .inl hb
       .rw[(no c).2 hb]at z;show .inr z
     .cases e3
    .cases e3
   |rt d=>cases J
   |bk ρ=>cases J
   |ct ρ=>cases J
   |ro ρ=>cases J
   |rm d ρ=>cases J
section
variable {X:Cx}{tg iter elt:Expr}{ifs:L Expr}{scope:oE}{pos:Pos}{nm:L Str}{fl:FD}{gd:D->XA->Op XA}{p:QE}{f:TB}
def zT9(hm:(KI scope m).length=m)(hc:X.calm=true)(hk:scope.kind=.function)(hok:HN X.N (KI scope m) scope.names X.env.scope.names=true)(hi:SI X tg iter fl)(vM:JP X.N.length gd)(hg:∀C U z ex,SG (zT X (KI scope m) scope C U z ex) tg gd)(ht:∀C U z ex,XR (zT X (KI scope m) scope C U z ex) ifs p)(he:∀C U z ex,SE (zT X (KI scope m) scope C U z ex) elt f)(hs:∀x,IC iter X.env x=pure x):SF X (.ListComp elt [#[tg,iter,ifs,0]] scope pos) (zB m fl gd p f):=by
 intro pins s σ H Q I h;let(G,ρ,ys,sm,er,ef,k):=h;let(ds,e1,Y):=aA.mp ef;split at Y
 .rename_i hl;generalize KI scope m=nm at hm hok hg ht he;subst hm;have KJ:=Ai λy hy hf=>I.ok.has _ ((zo hok hy).2.2.2 hf)
  refine af rfl hs KJ hk (λy hy=>(zo hok hy).2.2.1) (iD (hi _ s σ H _ I #[G,ρ,ds,sm,er,e1,λJ G' H' t it=>(#[G',t,it]:∃G',zM G H G' H'/\bP _ G' J ds)]) λv s1 h1=>iD h1 λP1 s2 h2=>?_);let(it,fp,tn,J,H2,rfl,I2,T,ZH,f2,G2,t2,O1):=h2;refine Nu hc hk hok vM hg ht he I2 T ZH f2 t2.s (er.step t2) O1 (JA hl<|02) Y λD C s' H' G' vs m' I' t' nD gD hD rD hn kQ iR jR dS RT=>?_
  refine#[m',hn,λh' uQ=>#[.ref D,H',?_,rfl,k D vs G' H' (t2.trans t') (t2.h.free nD) gD hD rD]];show I'.turned (λb o hb e=>uQ.extBut b o hb e) kQ iR (.inr jR) dS RT
 .cases Y
def zJ2{py CK:Pos}{fo:XA->L D->Out}(hm:nm.length=m)(hc:X.calm=true)(hk:scope.kind=.function)(hok:HN X.N nm scope.names X.env.scope.names=true)(hi:SI X tg iter fl)(vM:JP X.N.length gd)(hg:∀C Y U ex,SG (zT X nm scope C Y U ex) tg gd)(ht:∀C Y U ex,XR (zT X nm scope C Y U ex) ifs p)(he:∀C Y U ex,SE (zT X nm scope C Y U ex) elt f)(hN:X.N.Nodup)(hx:X.N[i]?>x)(sQ:Loc X.env.scope x)(VH:dF (.ListComp elt [#[tg,iter,ifs,0]] scope pos) (some<|.Name x py) CK.line X.env=pure true)(hf:aM X x)(hs:∀x,IC iter X.env x=pure x)(hfo:∀{G0 H0 G H G' H':Hp}{ρ:XA}{σ:L2.St}{a:Addr}{vs:L V}{ys:L D}{E:MQ},uD X.K G0 H0 G H ρ σ->zM G H G' H'->H a=none->G' a=none->H' a>.lst vs->EA X.K G' ys vs->DY X.K G0 H0 E (fo ρ ys)->E.nx (σ.set i<|some<|.ref a) H'):
  SS X (.Assign [.Name x py] (.ListComp elt [#[tg,iter,ifs,0]] scope pos) CK) (λρ=>(zB m fl gd p f ρ).map<|fo ρ):=by
 intro pins s σ H E I h;let(G0,H0,G,ρ,o,st,ef,k):=h;let(ys,iN,rfl):=bA.mp ef;let(ds,e1,e2):=aA.mp iN;split at e2
 .rename_i hl;subst hm;have KJ:=Ai λy hy hf=>I.ok.has _ ((zo hok hy).2.2.2 hf)
  rw[exec_Assign_Name_used _ _ _ _ VH];refine Ee<|fx<|Ee ?_
  refine Ee (K0 (af rfl hs KJ hk (λy hy=>(zo hok hy).2.2.1)
   (iD (hi _ s σ H _ I #[G,ρ,ds,st.bs.gh,st.er,e1,λJ G' H' t it=>(#[G',t,it]:∃G',zM G H G' H'/\bP _ G' J ds)]) λv s1 h1=>iD h1 λP1 s2 h2=>?_)) (λ_ s' hq=>F1<|F1 hq) λ_ _ e=>e)
  let(it,fp,tn,J,H2,rfl,I2,T,ZH,f2,G2,t2,O1):=h2;refine Nu hc hk hok vM hg ht he I2 T ZH f2 t2.s (st.er.step t2) O1 (JA hl<|02) e2 λD C s' H' G' vs m' I' t' nD gD hD rD hn kQ iR jR dS RT=>?_
  refine WY (vh (v:=.ref D) I' hN hx sQ rfl (λrR I'' Jb=>?_) hf);let(a,Jb,ha):=Jb
  have hCa:C≠a:=by
   rcases ha with z|z
   .rw[z];show iR
   .show(dS x a z).symm
  refine#[m',hn.sameBut Jb hCa,λh' uQ=>#[_,H',I''.turned (λb o hb e=>uQ.extBut b o hb e) kQ iR (.inr jR) dS RT,?_]];show hfo st (t2.trans t') (t2.h.free nD) gD hD rD k
 .cases e2
variable {m:Nat}{x:Str}{py CK:Pos}
def zLZ(i:Nat)(hm:(KI scope m).length=m)(hc:X.calm=true)(hk:scope.kind=.function)(hok:HN X.N (KI scope m) scope.names X.env.scope.names=true)(hi:SI X tg iter fl)(vM:JP X.N.length gd)
  (hg:∀C J z ex,SG (zT X (KI scope m) scope C J z ex) tg gd) (ht:∀C J z ex,XR (zT X (KI scope m) scope C J z ex) ifs p) (he:∀C J z ex,SE (zT X (KI scope m) scope C J z ex) elt f)
  (Y:X.N.Nodup) (hx:X.N[i]?>x) (sQ:Loc X.env.scope x)
  (U:dF (.ListComp elt [#[tg,iter,ifs,0]] scope pos) (some<|.Name x py) CK.line X.env=pure true)
  (hf:aM X x) (hs:∀x,IC iter X.env x=pure x) :
  SS X (.Assign [.Name x py] (.ListComp elt [#[tg,iter,ifs,0]] scope pos) CK) (zw i λρ=>(zB m fl gd p f ρ).map .lst):=by
 have:=zJ2 (fo:=λρ ys=>.nx _) hm hc hk hok hi vM hg ht he Y hx sQ U hf hs (λ{G0 H0 G H G' H' ρ σ a vs ys E} st t h1 h2 h3 r k=>k _ _ _<|(st.step<|Ru t h1 h2 h3).setV<|qD.mpr #[a,vs,rfl,vF.of HA,EA.mono (yB h2) _ _ r]);refine zf this λQ σ H ⟨G0,H0,G,ρ,o,st,O,k⟩=>#[G0,H0,G,ρ,o,st,?_,k]
 unfold zw at O;rw[Option.map_map]at O;show O
def zI3(i:Nat)(hm:(KI scope m).length=m)(hc:X.calm=true)(hk:scope.kind=.function)(hok:HN X.N (KI scope m) scope.names X.env.scope.names=true)(hi:SI X tg iter fl)(vM:JP X.N.length gd)
  (hg:∀C O J ex,SG (zT X (KI scope m) scope C O J ex) tg gd) (ht:∀C O J ex,XR (zT X (KI scope m) scope C O J ex) ifs p) (he:∀C O J ex,SE (zT X (KI scope m) scope C O J ex) elt f)
  (Y:X.N.Nodup) (hx:X.N[i]?>x) (sQ:Loc X.env.scope x)
  (U:dF (.ListComp elt [#[tg,iter,ifs,0]] scope pos) (some<|.Name x py) CK.line X.env=pure true)
  (hf:aM X x) (hs:∀x,IC iter X.env x=pure x) :
  SS X (.Assign [.Name x py] (.ListComp elt [#[tg,iter,ifs,0]] scope pos) CK) (yJ i<|zB m fl gd p f):=
 zJ2 hm hc hk hok hi vM hg ht he Y hx sQ U hf hs (λ{G0 H0 G H G' H' ρ σ a vs ys E} st t h1 h2 h3 r k=>k _ _ _<|st.setOwn t rfl h1 h2 (λxs z=>by cases z;show#[vs,h3,r]) λ_ z=>by cases z)
end
section
variable {X:Cx}{κ:Nat->Addr}{C fi:Addr}{fd:K5}{ps:L Str}{e:Expr}{es:L Expr}{fl:FD}{pos p gB jN np AK:Pos}{x xc y:Str}{k n:Nat}{F:Ob->L D->Op (Except Nat Ob)}{wL:Stmt}{eL:L Stmt}{Fh:AB}
def zUA(M:Mk X.K C fi)(FO:PH X.prog X.w X.K X.mg X.base (EJ X.prog X.w) k fi fd ps (FY X.K κ F n))(hb:RO X.K fd ps [])(hr:qB (k+1) X.A)(hg:Gl X x)(hm:X.mg x>.ref C)(hn:(e::es).length+1=n)(ha:SA X.nox (e::es) fl)(hex:X.ex=[])(I:Inv X pins σ H s){Q Xe:jD}(sm:zO G H)(er:Er X.K G H ρ σ)(e1:fl ρ>ds)(e2:F (.ins C []) ds>r)(hok:∀U,r=.ok U->∀a G' H' s',zM G H G' H'->At X.K G' H' U a->(∀c∈VD H' U a,H c=none)->Inv X pins σ H' s'->Q (.ref a) s')(EV:∀c,r=.error c->∀G' H' s' y T,zM G H G' H'->Inv X pins σ H' s'->eV X.stack y T (.ref<|κ c) s'.heap->MP X pins H' y->MP X pins H' T->Xe (.ref y) s')(DG:XH x)(he:wF X e es)(eE:aG X pos es):
  F5 (F4 X.prog X.w) X.A (eval (.Call (.Name x p) (e::es) [] pos) X.env) Q Xe s:=by
 refine bF<|ZX I hg hm ?_ DG;have hA:=ha.pa pos pins s σ H (λvs H1=>∃O,zM G H O H1/\EA X.K O ds vs) (I.wish _) #[G,ρ,ds,sm,er,e1,λvs O H1 t1 r1=>#[O,t1,r1]];refine JF (h₀:=X.base) I.ok.mod.kin M.kp (K0 hA (λus s1 ⟨vs,H1,I1,rv,O,t1,r1⟩=>#[I1.unwish.kIn,?_]) λ_ _ z=>False.elim z) he eE;have I1:=I1.unwish;have B9:H1 (s1.heap.objs.size+1)=none:=I1.hok.fresh<|YC _;have C9:H1 s1.heap.objs.size=none:=I1.hok.fresh<|wA _;have OV:s1.heap.objs.size≠s1.heap.objs.size+1:=GA<|uE _;have I2:=Inv.made (C:=C) I1;generalize hav:s1.heap.objs.size+1=a at B9 OV I2;generalize hdv:s1.heap.objs.size=dx at C9 OV I2;have g1:O a=none:=t1.s.free B9;have g2:O dx=none:=t1.s.free C9
 have hH:∀b u,H1 b>u->upd (upd H1 dx<|.own a) a (.ins C dx []) b>u:=λb u e=>by
  rw[zD<|yH e B9,zD<|yH e C9];show e
 have ea:upd (upd H1 dx<|.own a) a (.ins C dx []) a>.ins C dx []:=HA;have ed:upd (upd H1 dx<|.own a) a (.ins C dx []) dx>.own a:=by rw[zD OV,HA]
 have fe:VD (upd (upd H1 dx<|.own a) a<|.ins C dx []) (.ins C []) a=[a,dx]:=by dsimp[VD];rw[ea];rfl
 have AA:At X.K O _ (.ins C []) a:=#[#[dx,[],ea,ed,(λq m=>by cases m),(λ_ _=>rfl),wA _],by rw[fe];simp[Ne.symm OV],λp m=>by
  rw[fe]at m;rcases oA.mp m with z|m
  .subst z;show g1
  .cases gA.mp m;show g2]
 have low:∀b,b∈VD _ (.ins C []) a->H1 b=none:=λb m=>by
  rw[fe]at m;rcases oA.mp m with z|m
  .subst z;show B9
  .cases gA.mp m;show C9
 have Ju:∀b,upd (upd H1 dx<|.own a) a (.ins C dx []) b=none->H1 b=none:=λb h=>by
  cases q:H1 b with
  |none=>rfl
  |some u=>rw[hH b u q]at h;cases h
 have up:∀b,H1 b=none->H b=none:=λb h=>by
  cases q:H b with
  |none=>rfl
  |some u=>rw[t1.h b u q]at h;cases h
 have hq:FY X.K κ F n (V.ref a::vs) (upd (upd H1 dx<|.own a) a<|.ins C dx []) (λv H2=>v=.non/\∃U G',r=.ok U/\Gh X.K O (upd (upd H1 dx<|.own a) a<|.ins C dx []) G' H2 (.ins C []) U a)
   (λu _ H2=>∃c G',r=.error c/\u=.ref (κ c)/\Left O (upd (upd H1 dx<|.own a) a<|.ins C dx []) G' H2 (VD (upd (upd H1 dx<|.own a) a<|.ins C dx []) (.ins C []) a)):=by
  refine#[O,.ins C [],a,ds,vs,r,rfl,λb u e=>hH b u<|t1.s b u e,AA,r1,by rw[ha.len _ _ e1];show hn,e2,?_]
  cases r with
  |ok U=>showλG' H' ch=>#[rfl,U,G',rfl,ch]
  |error c=>showλG' H' Y=>#[c,G',rfl,rfl,Y]
 have r2:zl (V.ref a::vs) (mB a::us):=.cons rfl rv
 have hl:(mB a::us++[]).length=ps.length:=by
  have e:=r2.length;rw[FO.len _ _ _ _ hq]at e;rw[WA];show e.symm
 subst hav;subst hdv;have bt:=hb _ (mB (s1.heap.objs.size+1)::us) I2.kIn ‹hl›;rw[WA]at bt
 refine XN (zPI (f:=fi) I1.kIn M.makes M.init (beq_iff_eq.mp M.fn)<|T4 (FO.run _ X.stack _ _ _ (mB (s1.heap.objs.size+1)::us) _ _ _ (hr.make C us [])
  (I2.env0.make C us []) bt r2 hq) λrr s' xM=>?_)
 cases rr with
 |error u=>
  let(y,T,C0,H',rfl,os,bare,un,dJ,iQ,ny,nT,hy,hT,c,G',rfl,eC,Y):=xM;cases eC;have J:Inv X pins σ H' s':=I2.call' os un dJ bare λb m=>absurd m (by simp)
  have t2:zM O H1 G' H':=#[Y.g,λb u e=>Y.h b u (hH b u e) (λm=>by rw[low b m]at e;cases e),Y.gh,λb u e n=>(Y.fr b u e n).elim (·.back hH) λz=>.inl<|low b z]
  show EV c rfl G' H' s' y T (t1.trans t2) J iQ (Ff I2 hex ny hy)<|Ff I2 hex nT hT
 |ok fw=>
  cases fw with
  |ret u=>
   let(v,H',I3,Xi,ev,U,G',rfl,ch):=I2.after xM;subst ev;have t2:zM O H1 G' H':=#[ch.g,λb u e=>ch.h b u (hH b u e) (λm=>by rw[low b m]at e;cases e),ch.gh,λb u e n=>(ch.fr b u e n).elim (·.back hH) λz=>.inl<|low b z]
   show#[Xi,hok U rfl _ G' H' s' (t1.trans t2) ch.at_ (λc m=>up c<|(ch.new c m).elim (low c)<|Ju c) I3]
  |next=>show False.elim xM
  |brk=>show False.elim xM
  |cont=>show False.elim xM
def zQH(i:Nat)(Y:Nat)(M:Mk X.K C fi)(FO:PH X.prog X.w X.K X.mg X.base (EJ X.prog X.w) k fi fd ps (FY X.K κ F n))(hb:RO X.K fd ps [])(hr:qB (k+1) X.A)(hg:Gl X x)(hm:X.mg x>.ref C)(hn:(e::es).length+1=n)(ha:SA X.nox (e::es) fl)(hex:X.ex=[])(hC:OU X.K (κ Y))(hgc:Gl X xc)(hmc:X.mg xc>(.ref<|κ Y))(wI:X.stack=X.env::X.outer)(lR:X.env.frame>X.env.locals)(hh:∀y,pK (EX X y).nox (wL::eL) Fh)(hN:X.N.Nodup)(hi:X.N[i]?>y)(hy:Loc X.env.scope y)(hs:cI X (.Call (.Name x p) (e::es) [] gB) (some<|.Name y pos') jN)(hf:aM X y)(DG:XH x)(hdc:XH xc)(he:wF X e es)(eE:aG X gB es):
  SS X (.Try [.Assign [.Name y pos'] (.Call (.Name x p) (e::es) [] gB) jN] [.ExceptHandler (some<|.Name xc np) none (wL::eL) AK] [] [] pos) (fY C i fl F Y Fh):=by
 intro pins s σ H D I h;let(G0,H0,G,ρ,o,st,ef,k):=h;let(ds,e1,iN):=aA.mp ef;let(r,e2,O):=aA.mp iN;refine Z8 (bz<|wpAny_Assign_Name (zUA M FO hb hr hg hm hn ha hex I st.bs.gh st.er e1 e2 (λx' hx a G' H' s' t U nw J=>?_) (λc hc G' H' s' y T t J iQ ny nT=>?_) DG he eE) hs)
 .subst hx;cases O;show Cf J hN hi hy (v:=.ref a) rfl (λs2 I2=>ah<|ah #[_,H',I2,k _ G' H'<|st.setNew t rfl #[#[U.rep,U.nd],λ_ z=>by cases z] λc m=>#[nw c m,U.fr c m]]) hf
 .subst hc;simp only at O;split at O
  .rename_i BX;subst BX;show zXP hC hgc hmc wI lR J iQ ny nT (hh y) #[G0,H0,G',ρ,o,st.step t,O,k] hdc
  .cases O
end
section
variable {prog:F6}{w:F9}{A:F8}{E:jD}{s:F2}{v it d:Addr}{od:Obj}{es:Array cm}{ep i:Nat}
def zLa(d:Addr)(hd:(d==BC)=false):MeetsIn prog w (Builtin.«dict.values» #[[.ref d],[]]) (λ_ R s=>s.TypeIs (.ref d) "dict"/\R (.ok<|.ret<|.ref s.heap.objs.size) { s with heap:=s.heap.push { cls:=.type "dict_values",data:=.fields (List.toArray [.ref d]) } }):=by
 refine .of_wp λA R s hh=>Ee ?_
 let(z,k):=hh;refine Ee<|aw z ?_;refine F1<|Ee ?_;unfold TJ;dsimp[hd,if_false];show F1<|Ee<|K2<|F1 #[_,rfl,k]
def zNS{Q:jD}(hv:s.heap.IsValuesView v d)(J:s.heap.get? d>od)(hd:od.data=.dict es ep)
  (hQ:Q (.ref s.heap.objs.size) { s with heap:=s.heap.push { cls:=.type "dict_valueiterator",data:=.fields (List.toArray [.ref d,.int 0 0,.int es.size 0,.int ep 0]) } }):F5 (F4 prog w) A (dq<|.ref v) Q E s:=by
 have z:=hv.typeIs;let(O,h1,_,h3):=hv;refine VG z uO<|K1 uO z F.entry_dict_values_iter ?_<|F.args_dict_values_iter_1 _;have no:nB "dict_valueiterator" = false:=02
 refine Ee<|F1<|Ee<|Ee<|aj h1 h3 (x:=.ref d) rfl<|F1<|Ee<|Ee<|N7 J hd<|Ee<|ai J hd ?_;dsimp[no,JB,if_false];show K2<|F1 #[_,rfl,"dict_valueiterator",_,#[_,rA _ rfl,rfl],F.slot_dict_valueiterator_next.lookup,hQ]
def zNT{Q:Op F3->F2->Prop}(J:s.heap.IsValIter it d i es.size ep)(O:s.heap.get? d>od)(hd:od.data=.dict es ep){e:cm}(hx:es[i]?>e)
  (hQ:∀h',h'.IsValIter it d (i+1) es.size ep->EC it s.heap h'->Q (some e.val) { s with heap:=h' }):F5 (F4 prog w) A (az<|.ref it) Q E s:=by
 have z:=J.typeIs;let(oi,g1,g2,g3):=J;have no:nB "dict_valueiterator" = false:=02
 have base:∀{s':F2}{R:Nat->F2->Prop},s'.TypeIs (.ref it) "dict_valueiterator"->R 0 s'->∀{U:F8}{Y:jD},F5 (F4 prog w) U (do return if nB (<- cu (.ref it)) then 2 else 0) R Y s':=λt r=>Ee (dw t (by rw[no];show F1 r))
 have new:(s.heap.update it (tD (·.setIfInBounds 1 (aa<|(i:Int)+1)))).IsValIter it d (i+1) es.size ep:=
  #[_,aC _ g1<|xH<|YD g3 _,(PR ..).trans g2,by rw[YD g3];simp[aa]]
 unfold az;refine Ee<|bf<|wpAny_callSpecial?_slot (name:=iA "__next__") z UD<|K1 UD z jK ?_<|UJ _;refine Ee<|F1<|Ee<|Ee<|base z<|Ee<|ar g1 g3 ?_;change F5 _ _ (if (mB d==pC)=true then _ else _) _ _ s;have nn:¬ ((mB d==pC)=true):=CB;rw[if_neg nn];refine Ee<|F1<|Ee<|N7 O hd ?_;rw[if_neg<|by simp];refine Ee<|F1<|Ee<|ai O hd ?_;rw[if_neg<|by simp];refine F1 ?_;have hi:¬ ((i:Int)<0):=01
 dsimp[hi,if_false,bD,hx];refine Ee<|base z<|Ee<|cw z ?_;refine Ee (K9 g1 g3 (by simp)<|Ee<|K3 ?_);have nT:{ s with heap:=s.heap.update it (tD (·.setIfInBounds 1 (aa<|(i:Int)+1))) }.TypeIs (.ref it) "dict_valueiterator":=new.typeIs;refine Ee<|cw nT<|Ee<|cw nT ?_;change F5 _ _ (pure e.val) _ _ _;show F1<|F1 #[_,rfl,F1<|hQ _ new<|lB ..]
def zQI{Q:Op F3->F2->Prop}(hh:A.handled=none)(z:s.heap.IsValIter it d i es.size ep)(O:s.heap.get? d>od)(hd:od.data=.dict es ep)(hx:es.size<=i)
  (hQ:∀h',CH it s.heap h'->Q none { s with heap:=h' }):F5 (F4 prog w) A (az<|.ref it) Q E s:=by
 have J:=z.typeIs;let(oi,g1,g2,g3):=z;have no:nB "dict_valueiterator" = false:=02
 have base:∀{s':F2}{R:Nat->F2->Prop},s'.TypeIs (.ref it) "dict_valueiterator"->R 0 s'->∀{U:F8}{Y:jD},F5 (F4 prog w) U (do return if nB (<- cu (.ref it)) then 2 else 0) R Y s':=λt r=>Ee (dw t (by rw[no];show F1 r))
 unfold az;refine Ee<|bf<|wpAny_callSpecial?_slot (name:=iA "__next__") J UD<|K1 UD J jK ?_<|UJ _;refine Ee<|F1<|Ee<|Ee<|base J<|Ee<|ar g1 g3 ?_;change F5 _ _ (if (mB d==pC)=true then _ else _) _ _ s;have nn:¬ ((mB d==pC)=true):=CB;rw[if_neg nn];refine Ee<|F1<|Ee<|N7 O hd ?_;rw[if_neg<|by simp];refine Ee<|F1<|Ee<|ai O hd ?_;rw[if_neg<|by simp];refine F1 ?_;have hi:¬ ((i:Int)<0):=01
 dsimp[hi,if_false,bD,KM hx];refine Ee (base J<|Ee<|K9 g1 g3 (by simp)<|Ee ?_);dsimp[newExc,newTuple,uT];refine Ee (K2 (Ee (m:=VN _ _)<|cx (a:=pC) rfl<|K2 ?_<|by size_fits)<|by size_fits);refine Ee<|fy ?_;rw[show A.in1.handled=none from hh];refine Ee<|F1<|eh ?_;refine Ee<|bx (T:="StopIteration") (b:=true) #[_,rA _ rfl,rfl] WN<|F1<|hQ _ ?_;show((lB ..).extBut.push _).push _
end
section
variable {X:Cx}{pins:IE}{σ:L2.St}{H:Hp}{s:F2}
def Dq(I:Inv X pins σ H s)(hd:H d>u)(nt:∀xs,u≠.tup xs)(O:∀ps,u≠.tbl ps)(no:∀y,u≠.own y)(hz:∀o v,X.H₀ d≠some (.frz o v))(new:qA X.prog X.w (upd H d u') s.heap d u'):Inv X pins σ (upd H d u') s:=by
 have nn:∀b,H b=none->b≠d:=λb n z=>by rw[z,hd]at n;cases n
 have ne:∀{b:Addr}{v:HO},H b>v->v≠u->b≠d:=λq n z=>by rw[z,hd]at q;cases q;show n rfl
 refine#[I.ok,I.os,I.bare,#[I.base.keep,I.base.slot,λb o e n hx=>?_,I.base.there,λb xs e=>?_,λb o v e=>?_,λb ps e=>?_],I.loc,I.cell,?_,λx c e=>?_,λp hp=>?_,λb o e=>?_,I.len]
 .have q:=I.base.free b o e n hx;rw[zD<|nn b q];show q
 .have q:=I.base.tups b xs e;rw[zD<|ne q λz=>nt _ z.symm];show q
 .by_cases c:b=d
  .subst c;show absurd e<|hz o v
  .rw[zD c];show I.base.frzs b o v e
 .let(J,q):=I.base.tbls b ps e;show#[J,by rw[zD<|ne q λz=>O _ z.symm];show q]
 .rw[zD<|nn _ I.free];show I.free
 .rw[zD<|nn _<|I.freeC x c e];show I.freeC x c e
 .let(p1,p2,p3,U,Y):=I.pin p hp;show#[p1,by rw[zD<|nn _ p2];show p2,p3,U,Y]
 .by_cases c:b=d
  .subst c;rw[HA]at e;cases e;show new
  .rw[zD c]at e;show(I.hok b o e).stay (λ_ _ _ q=>q) (λc q=>by rw[zD<|ne q λz=>no _ z.symm];show q) λc xs q=>by rw[zD<|ne q λz=>nt _ z.symm];show q
def zUB:eZ X "dict.values" (λx xs H Q=>∃d vs,x=.ref d/\xs=[]/\H d>.dT vs/\∀p,H p=none->Q (.ref p) (upd H p<|.ext λh=>h.IsValuesView p d)):=by
 intro pins s σ H x xs v us Q I U O h;let(d,vs,rfl,rfl,e,k):=h;cases U;cases O;let(zz,hd,ys,J,dd):=NS I.hok<|.inl e;refine pF QK dd.typeIs PySem.F.entry_dict_values (PySem.F.args_dict_values_1 _) (zLa d hd) #[dd.typeIs,?_];refine#[.ref _,_,I.laid (o:=.ext _) (λ_ _ q=>jA _ q) (wA _) #[#[_,rA _ rfl,rfl,rfl],#[_,rA _ rfl],λh1 h2 p q=>?_],rfl,k _ I.fresh];let(o,h3,z):=p;show#[o,q o h3,z]
end
theorem Nv{z J:Type}{F:z->J->Prop}:∀{l₁:L z}{l₂:L J},fu F l₁ l₂->∀(i:Nat){a:z}{b:J},l₁[i]?>a->l₂[i]?>b->F a b
 |_,_,.nil,i,_,_,e,_=>by simp at e
 |_,_,.cons r t,0,_,_,e,e'=>by simp_all
 |_,_,.cons r t,i+1,_,_,e,e'=>Nv t i (by assumption) (by assumption)
noncomputable def Gm(d:Addr)(od:Obj)(vs:L (L kC×V)):It:=#[λi H=>H d>(.frz od<|.dT vs)/\i<vs.length,λi H x H'=>H'=H/\(vs[i]?).map (·.2)>x,λi H=>H d>(.frz od<|.dT vs)/\vs.length<=i]
theorem zNU{P:F6}{w:F9}{K:Fg}{tg:Expr}(d it:Addr){od:Obj}{vs:L (L kC×V)}{es:Array cm}{ep:Nat}(hd:od.data=.dict es ep):VS P w K tg (Gm d od vs) [it] it (λi h=>h.IsValIter it d i es.size ep) where
 mem:=gA.mpr rfl
 obj:=λi h st b hb=>by
  cases gA.mp hb;let(o,e,c,q):=st;show#[o,e,λv z=>by rw[q]at z;cases z]
 keep:=λi h h' st k=>by
  let(o,e,c,q):=st;show#[o,k it (gA.mpr rfl) o e,c,q]
 item:=by
  intro X hP hw hK hc i pins s σ H E I hf st hg;subst hP hw hK;let(hq,hi):=hg;let(Y,zz,hs,xs,J,o,BL,eR,e1,ex,O,e3,nd):=(I.hok d _ hq)
  rw[Y]at e1;cases e1;rw[hd]at O;cases O;let(f0,f1,f2,f3,f4,f5):=hf it<|gA.mpr rfl;have ll:=Paired.length J;obtain⟨q,xM⟩:∃q,xs[i]?>q:=#[xs[i]'01,by simp[show i<xs.length by omega]]
  obtain⟨p,hp⟩:∃p,vs[i]?>p:=#[vs[i],by simp[hi]]
  have rv:z9 p.2 q.2.2:=(Nv J i hp xM).2.2;have he:es[i]?>fq (ax<|zY X.prog X.w) q:=by rw[Uw e3,xM];rfl
  refine zNT st Y hd he λh' AC sb=>?_
  have I1:=I.turned (t':=s.toks) (λb o hb e=>(sb.2 b hb).trans e) f0 f1 f3 f4 f5;let(o,e,c,q0):=id AC;show#[_,rfl,U7 e c q0 02 #[p.2,H,I1,rv,#[rfl,by rw[hp];rfl],AC,λb hb=>(hf b hb).1]]
 done:=by
  intro X hP hw hK hc i pins s σ H E I hf st hg;subst hP hw hK;let(hq,hi):=hg;let(Y,zz,hs,xs,J,o,BL,eR,e1,ex,O,e3,nd):=(I.hok d _ hq)
  rw[Y]at e1;cases e1;rw[hd]at O;cases O;let(f0,f1,f2,f3,f4,f5):=hf it<|gA.mpr rfl;have ll:=Paired.length J;show zQI (I.ok.hd hc) st Y hd (by rw[ez e3];omega) λh' eb=>#[rfl,I.turned (t':=s.toks) (λb o hb e=>eb b o hb e) f0 f1 f3 f4 f5]
 self:=λA i s Q E st h=>wpAny_pyIter_valiter st h
theorem Pk{K:Fg}{G H:Hp}:∀{xs:L (L D)}{vs:L V}(i:Nat){x:L D},zv K G H xs vs->xs[i]?>x->∃b us,vs[i]?>.ref b/\H b>.lst us/\EA K G x us
 | [],_,i,x,h,e=>by simp at e
 |y::ys,_,0,x,h,e=>by
  let(b,us,t,rfl,h1,h2,h3):=h;simp at e;subst e
  show#[b,us,rfl,h1,h2]
 |y::ys,_,i+1,x,h,e=>by
  let(b,us,t,rfl,h1,h2,h3):=h;show Pk i h3 (by assumption)
theorem Ca{K:Fg}{G H:Hp}:∀{xs:L (L D)}{vs:L V},zv K G H xs vs->vs.length=xs.length
 | [],_,h=>by subst h;rfl
 |y::ys,_,h=>by
  let(b,us,t,rfl,h1,h2,h3):=h;simp[Ca h3]
theorem zUC{K:Fg}{G:Hp}{b:Addr}{od:Obj}{vs:L (L kC×V)}{kvs:L (L kC×L D)}(h:G b>(.frz od<|.dT vs))(r:zv K G G (kvs.map (·.2)) (vs.map (·.2))):bP K G (Gm b od vs) (kvs.map λq=>.lst q.2) where
 go:=λi H s hi=>#[s _ _ h,by have:=Ca r;grind]
 stop:=λi H s hi=>#[s _ _ h,by have:=Ca r;grind]
 yld:=λi J H x H' s1 s hi y=>by
  obtain⟨rfl,y⟩:=y;refine#[J,zM.refl s,λd e=>?_];rw[MA]at e;obtain⟨q,e1,rfl⟩:=bA.mp e;obtain⟨c,us,z,e3,O⟩:=Pk i r (by rw[MA,e1];rfl);rw[MA]at z;rw[z]at y;cases y;show qD.mpr #[c,us,rfl,vF.of<|s1 _ _ e3,EA.mono s1 _ _ O]
theorem zJ3{K:Fg}{G:Hp}:∀bs:L Bool,EA K G (bs.map .bl) (bs.map V.bl)
 | []=>.nil
 |b::bs=>.cons (zb.mpr rfl)<|zJ3 bs
def BZ{K:Fg}{G H:Hp}{σ:L2.St}{n:Nat}(h:n=σ.length):Er K G H (nA n .un) σ:=by
 have no:∀{i:Nat}{s:Sl},(nA n _)[i]?>s->s=.un:=λ{i s} e=>(NC.mp<|xA e).2
 show#[by simp[h],(λi d e=>by cases no e),(λi s e z=>by rw[no e]at z;cases z),λi j s t a b _ e z=>by rw[no e]at z;cases z]
noncomputable def C7(C:Addr)(m i:Nat)(f:Str)(g:D->XA->Op XA)(e:TB):FD:=λρ=>(CI C i f ρ).bind λx=>match x with
 |.f (.tl kvs)=>if kvs.length<=1000000 then (zF g (λ_=>some true) e (kvs.map λq=>.lst q.2)<|nA (ρ.length+m) .un).bind λys=>(wU ys).map λbs=>bs.map D.bl else none
 |_=>none
def zQJ{X:Cx}{tg elt o:Expr}{scope:oE}{pos apos gB BF:Pos}{gd:D->XA->Op XA}{fe:TB}{A:Addr}{f:Str}{m:Nat}(i:Nat)(c:TH X.K A)(n:ye X.K A f)(ho:PE X o (qk i))
  (hm:(KI scope m).length=m) (hk:scope.kind=.function) (hok:HN X.N (KI scope m) scope.names X.env.scope.names=true) (vM:JP X.N.length gd)
  (hg:∀C iB OC ex,SG (zT X (KI scope m) scope C iB OC ex) tg gd) (he:∀C iB OC ex,SE (zT X (KI scope m) scope C iB OC ex) elt fe) (hc:X.calm=true)
  (hb:HJ X o f)
  (BD:HJ X (.Attribute o f BF) "values") (CD:FN apos gB)
  (hs:∀x,IC (.Call (.Attribute (.Attribute o f BF) "values" apos) [] [] gB) X.env x=pure x) :
  SF X (.ListComp elt [#[tg,.Call (.Attribute (.Attribute o f BF) "values" apos) [] [] gB,[],0]] scope pos) (C7 A m i f gd fe):=by
 intro pins s σ H Q I h;let(G,ρ,ys,sm,er,O,k):=h;let(fl,e1,O):=aA.mp O;let(x,e3,e4):=aA.mp e1;let(a,q1,At):=pU er e3
 cases fl with
 |v d'=>cases O
 |f y=>
  cases y with
  |tl kvs=>
   let(dx,ws,u,w1,w2,(b,rfl,vs,U,z2,z3),w4):=At.fld e4;simp only at O;split at O
   .rename_i hl;let(ys0,e5,O):=aA.mp O;let(bs,e6,rfl):=bA.mp O;generalize KI scope m=nm at hm hok hg he;subst hm;have gb:G b=none:=w4 b (by simp[tH,BE]);have gr:∀c,.ref c∈vs.map (·.2)->G c=none:=λc m=>w4 c (by dsimp[tH,BE];rw[U];show cA _<|zm.mpr m)
    have hz:∀o v,X.H₀ b≠some (.frz o v):=λo v e=>by rw[I.base.frzs b o v e]at U;cases U
    have KJ:closureFor scope X.env=pure (OL scope.names X.env.cells):=Ai λy hy hf=>I.ok.has y.1<|(zo hok hy).2.2.2 hf
    rw[eval_ListComp]
    refine af (use:=none) rfl hs KJ hk (λy hy=>(zo hok hy).2.2.1) (iD (zRi HE QK PySem.F.type_dict_values zUB (BU ho hb) BD CD pins s σ H (λv H'=>∃p,v=.ref p/\H p=none/\H'=upd H p (.ext λh=>h.IsValuesView p b)) I
     #[_,q1,a,A,dx,ws,_,rfl,w1,c,n,w2,.inr<|.inr<|.inl #[rfl,.inr #[vs,U]],b,vs,rfl,rfl,U,λp hp=>#[p,rfl,hp,rfl]]) λv s1 h1=>?_)
    let(v1,H1,I1,rv1,p,rfl,hp,rfl):=h1;cases rv1;have bp:b≠p:=λz=>by rw[z,hp]at U;cases U
    have Y:upd H p (.ext λh=>h.IsValuesView p b) b>.dT vs:=by rw[zD bp];show U
    let(vw,_,_):=(show qA X.prog X.w _ s1.heap p (.ext λh=>h.IsValuesView p b) from I1.hok p _ HA)
    let(l1,l2,xs,l3,od,es,ep,l4,l5,l6,l7,l8):=(show qA X.prog X.w _ s1.heap b (.dT vs) from I1.hok b _ Y)
    refine zNS vw l4 l6 ?_;have I2:=I1.kept (h':=s1.heap.push { cls:=.type "dict_valueiterator",data:=.fields (List.toArray [.ref b,.int 0 0,.int es.size 0,.int ep 0]) }) (t':=s1.toks) λb o e=>jA _ e
    have n2:upd H p (.ext λh=>h.IsValuesView p b) s1.heap.objs.size=none:=I1.fresh;have ZH:{ s1 with heap:=s1.heap.push { cls:=.type "dict_valueiterator",data:=.fields (List.toArray [.ref b,.int 0 0,.int es.size 0,.int ep 0]) } }.heap.IsValIter s1.heap.objs.size b 0 es.size ep:=#[_,rA _ rfl,rfl,rfl]
    have Vq:∀H':Hp,H' s1.heap.objs.size=none->EH X pins H' s1.heap.objs.size:=λH'=>I1.fpOk<|wA _
    generalize s1.heap.objs.size=it at n2 ZH Vq|-;have l4':{ s1 with heap:=s1.heap.push { cls:=.type "dict_valueiterator",data:=.fields (List.toArray [.ref b,.int 0 0,.int es.size 0,.int ep 0]) } }.heap.get? b>od:=jA _ l4;have stay:∀{J:Hp}{h3:Heap}{u':HO},(∀c xs,J c>.tup xs->c≠b)->(∀c,J c>.own b->c≠b)->qA X.prog X.w J h3 b (.dT vs)->qA X.prog X.w (upd J b u') h3 b (.dT vs):=λne no w=>w.stay (λ_ _ _ q=>q) (λc q=>by rw[zD<|no c q];show q) λc xs q=>by rw[zD<|ne c xs q];show q
    have I3:=Dq (u':=.frz od<|.dT vs) I2 Y (λ_ z=>by cases z) (λ_ z=>by cases z) (λ_ z=>by cases z) hz #[l4',stay (λc xs q z=>by rw[z,Y]at q;cases q) (λc q z=>by rw[z,Y]at q;cases q)<|I2.hok b _ Y];generalize Ht:upd (upd H p<|.ext λh=>h.IsValuesView p b) b (.frz od<|.dT vs)=J at I3;have DV:J b>(.frz od<|.dT vs):=by rw[<- Ht,HA]
    have ne3:∀c o,c≠b->H c>o->J c>o:=λc o n e=>by rw[<- Ht,zD n,zD (λz=>by rw[z,hp]at e;cases e)];show e
    have nn3:∀c,J c=none->H c=none/\c≠b:=λc e=>by
     have n:c≠b:=λz=>by rw[z,DV]at e;cases e
     refine#[?_,n]
     cases q:H c with
     |none=>rfl
     |some o=>rw[ne3 c o n q]at e;cases e
    let G3:Hp:=λc=>if c=b then some (.frz od<|.dT vs) else if c∈YG vs then H c else G c
    have g33:zO G3 J:=λc o e=>by
     dsimp[G3]at e;split at e
     .rename_i z;rw[z,DV];show e
     .rename_i z;split at e
      .show ne3 c o z e
      .show ne3 c o z<|sm c o e
    have Vx:zO G G3:=λc o e=>by
     dsimp[G3];rw[if_neg (λz=>by rw[z,gb]at e;cases e),if_neg (λz=>by rw[gr c<|zm.mp z]at e;cases e)];show e
    have it3:bP X.K G3 (Gm b od vs) (kvs.map λq=>.lst q.2):=zUC (by simp[G3]) (z3.same Vx λc m o e=>by
     dsimp[G3];let(j,hj):=vO m;have lj:j<(kvs.map (·.2)).length:=by rw[<- Ca z3];show(vA.mp hj).1
     let(c',us,e7,e8,_):=Pk j z3<|xB lj;rw[hj]at e7;cases e7;rw[if_neg (λz=>by rw[z,U]at e8;cases e8),if_pos<|zm.mpr m];show e)
    have fo:∀c∈[it],EH X pins J c:=λc m=>by
     cases gA.mp m;show Vq _ (by rw[<- Ht,zD (λz=>by rw[z,Y]at n2;cases n2)];show n2)
    refine Nu (RR:=λacc C=>compPost (F4 X.prog X.w) X.A X.xe none (EP X pins σ Q) acc C) (p:=λ_=>some true) hc hk hok vM hg (λ_ _ _ _=>.inl #[rfl,rfl]) he I3 (zNU b it l6) ZH fo g33 (BZ er.len) it3 (JA (m:=1000000) ‹hl›<|02) (by rw[List.replicate_append_replicate];show e5) λD C s' H' G' us m' I' t' nD gD hD rD hn kQ iR jR dS RT=>?_
    have OZ:=t'.h _ _ DV;let(_,w'):=(show qA X.prog X.w H' s'.heap b (.frz od<|.dT vs) from I'.hok b _ OZ)
    have I4:=Dq (u':=.dT vs) I' OZ (λ_ z=>by cases z) (λ_ z=>by cases z) (λ_ z=>by cases z) hz (stay (λc xs q z=>by rw[z,OZ]at q;cases q) (λc q z=>by rw[z,OZ]at q;cases q) w');let(Wx,nD2):=nn3 D nD;have b1:=Nk e6;subst b1;refine#[m',hn,λh' uQ=>#[.ref D,upd H' b<|.dT vs,I4.turned (t':=s'.toks) (λb o hb e=>uQ.extBut b o hb e) (by rw[zD (λz=>by rw[z,OZ]at kQ;cases kQ)];show kQ) iR (.inr jR) dS RT,rfl,k D us G _ #[zO.refl _,?_,?_,λc o e n=>by rw[n]at e;cases e] Wx (sm.free Wx) (by rw[zD nD2];show hD) ?_]]
    .intro c o e;by_cases z:c=b
     .rw[z]at e ⊢;rw[HA,<- e,U]
     .rw[zD z];show t'.h _ _<|ne3 c o z e
    .intro c o e;rw[zD (λz=>by rw[z,gb]at e;cases e)];show t'.s _ _<|t'.g _ _<|Vx _ _ e
    .rw[Nl rD];show zJ3 bs
   .cases O
  |_=>cases O
section
variable {X:Cx}{o a e:Expr}{es:L Expr}{pos apos gB:Pos}{i:Nat}{f g:TB}{fl:FD}
noncomputable def bO(i:Nat):TB:=λρ=>match ρ[i]? with
 |some (.o _<|.p<|.l xs)=>some<|.lst xs
 |_=>none
def zXa{ρ:XA}(h:bO i ρ>d):∃c xs,ρ[i]?>(.o c<|.p<|.l xs)/\d=.lst xs:=by
 unfold bO at h;split at h
 .rename_i c xs q;cases h;show#[c,xs,q,rfl]
 .cases h
def J4(i:Nat)(h:PE X e (qk i)):SR X e (bO i):=lF h λσ H Q=>by
 rintro⟨G,ρ,d,s,er,Y,k⟩;let(c,xs,q,rfl):=zXa Y;let(a,e1,z,e3):=er.slot i _ q rfl;let(((vs,O,U),_),_):=z;show#[_,e1,k _ G H (zM.refl s)<|.ow (e3 a<|by simp[ED,VD,BE]) O U]
noncomputable def vY(i:Nat)(f:TB):AB:=λρ=>match ρ[i]? with
 |some (.o c<|.p<|.l xs)=>if xs.length<16000000 then (f ρ).map λd=>.nx (ρ.set i<|.o c<|.p<|.l<|xs++[d]) else none
 |_=>none
def zUD(i:Nat)(ho:PE X o (qk i))(ha:SE X a f)(BD:HJ X o "append")(GF:aP X gB [a])(CD:FN apos gB)(hs:wF X a [])(wD:aG X gB [])
  (VH:cI X (.Call (.Attribute o "append" apos) [a] [] gB) none pos):SS X (.Expr (.Call (.Attribute o "append" apos) [a] [] gB) pos) (vY i f):=
 zf (qz (UO pB KC LC AW ho (zP ha zZ hs) BD GF CD hs wD) VH) λE σ H=>by
  rintro⟨G0,H0,G,ρ,o,st,J,k⟩;unfold vY at J;split at J
  .rename_i c xs q;split at J
   .rename_i hl;let(d,e2,rfl):=bA.mp J;let(a1,q1,q2,q3):=st.er.slot i _ q rfl;let(((vs,U,Y),_),q6):=q2;refine#[_,q1,.inl #[rfl,vs,vF.of U],G,ρ,d,st.bs.gh,st.er,e2,λv G' H' t r=>?_];have AC:=st.step t;have h4:=t.h _ _ U;have r5:=EA.mono t.g _ _ Y;let(a2,w1,_,w3):=AC.er.slot i _ q rfl;rw[q1]at w1;cases w1;have O:=w3 a1 (by simp[ED,VD,BE]);refine#[a1,vs,v,rfl,rfl,h4,BA (by rw[<- Y.length];show hl)<|02,k σ G' _<|AC.mutG q rfl rfl q1 (zO.refl _) (λb o e=>?_) (λb o e n=>by rw[e]at n;cases n) (λb o e n=>?_) #[#[#[_,HA,r5.append<|EA.cons r EA.nil],by simp[VD,BE]],q6] λc m=>?_]
    .rw[zD λz=>by rw[z,O]at e;cases e];show AC.bs.gh _ _ e
    .rw[zD λz=>n (by rw[z];simp[ED,VD,BE])];show e
    .have:=by simpa[ED,VD,BE] using m
     subst this;show#[.inl (by simp[ED,VD,BE]),O]
   .cases J
  .cases J
def Kn(K:Fg):=(λx vs H Q=>∃G ds dx y j,vs=[y]/\zO G H/\GG K G H (.lst ds) x/\Rep K G dx y/\LF dx<=20/\ds.findIdx? (λd=>GD d dx)>j/\Q (.int j) H:V->L V->Hp->VK->Prop)
def zQK(hu:X.A.units+30<K6):eZ X "list.index" (Kn X.K):=by
 intro pins s σ H x vs v us Q I rx rv h;let(G,ds,dx,y,j,rfl,sm,r1,r2,hd,ej,q):=h;let(u,rfl,ru):=rv.one;let(l,ws,rfl,ql,J):=r1.list sm;cases rx;let(its,O,p,hz):=I.list ql;let(hj,tj,nj):=EI.mp ej;have l1:=J.length;have l2:=O.length;have at_:∀(i:Nat)(hi:i<ds.length)(ZK:i<its.toArray.size),p8 ds _ dx its.toArray[i]=GD _ dx:=λi hi ZK=>Dn I sm J O dx (by simp)<|xB hi
 let(ob,n,e,hc,hs,U):=p;let(oc,od,odt,dO):=ob;simp at hc U hs;subst hc;subst U;subst hs;have Y:j<its.toArray.size:=by rw[IA];omega
 have sl:j<sizeLine:=01
 rw[K7]at sl;refine MH vL #[_,e,rfl] PySem.F.entry_list_index (PySem.F.args_list_index_2 _ _) (SeqAt.list_indexAt l _ n _ _ u _ j Y 01 (by rw[at_ j hj Y];show tj) (λm hm z=>by rw[at_ m _ hm];simpa using nj m z)) #[e,Q6 I sm hu J O r2 ru hd,?_];show#[.int j,H,I.tok _,#[_,rfl],q]
noncomputable def bX(d x:D):Op D:=if LF x<=20 then match d with
  |.lst ds=>(ds.findIdx? λy=>GD y x).map λ(j:Nat)=>D.int (j:Int)
  |_=>none
 else none
def zQL(hu:X.A.units+30<K6)(ho:SR X o f)(ha:SE X a g)(O:HJ X o "index")(GF:aP X gB [a])(U:FN apos gB)(hs:wF X a [])(wD:aG X gB []):
  SE X (.Call (.Attribute o "index" apos) [a] [] gB) (b2 f g bX):=
 lF (UO pB vL PySem.F.type_list_index (zQK hu) ho (zP ha zZ hs) O GF U hs wD) λσ H Q=>by
  rintro⟨G,ρ,d,sm,er,z,k⟩;let(x,e1,z):=aA.mp z;let(y,e2,z):=aA.mp z;unfold bX at z;split at z
  .rename_i hd
   cases x with
   |lst ds=>
    let(j,e3,rfl):=bA.mp z;refine#[G,ρ,_,sm,er,e1,λv1 Y H1 t1 r1=>?_];let(l,ws,rfl,ql,_):=r1.list t1.s;refine#[.inl #[rfl,ws,ql],Y,ρ,y,t1.s,er.step t1,e2,λv2 J H2 t2 r2=>?_]
    show#[J,ds,y,v2,j,rfl,t2.s,r1.step t2,r2,hd,e3,k _ J H2 (t1.trans t2)<|zV.mpr rfl]
   |_=>cases z
  .cases z
end
noncomputable def zXb(n:Nat)(a:Addr)(ρ:XA):Op Ob:=match ρ[n]? with
 |some (.o c y)=>if c>a then some y else none
 |_=>none
def outML(n:Nat)(a:Addr):Out->Op (D×Ob)
 |.rm d ρ=>(zXb n a ρ).map λy=>(d,y)
 |.nx ρ=>(zXb n a ρ).map λy=>(.non,y)
 |_=>none
section
variable {K:Fg}{G H:Hp}{a:Addr}{x:Ob}{ds:L D}{vs:L V}{m:Nat}
end
section
variable {X:Cx}{e:Expr}{es:L Expr}{pos p pos' gB:Pos}{fl:FD}{k n i:Nat}{F:L D->Ob->Op (D×Ob)}{x y:Str}
end
noncomputable def rO(w:F9):Bool:=w.params.followText "set-order"
noncomputable def TM(P:F6)(w:F9)(h:Heap)(a:Addr)(ws:L Str):Prop:=∃(o:Obj)(es:Array (Int×F3))(ep:Nat)(t:bo)(us:L Str),h.get? a>o/\o.ExactSet/\o.data=.set es ep t/\t.fits es.size=true/\(rO w=false->t.led=true)/\(0<es.size->t.plain=false) /\
 ElemsOf (jC P w) es.toList/\zl (us.map V.str) (es.toList.map (·.2))/\us.Perm ws
def zNV(t:bo)(n:Nat):(t.orStandIn n).led=t.led/\(t.plain=false->(t.orStandIn n).plain=false):=by
 unfold SetTable.orStandIn;split
 .show#[rfl,id]
 .show#[rfl,λ_=>rfl]
def zUF(t:bo)(es:Array (Int×F3))(h:Int)(x:F3):(layNew t es h x).2.1.led=t.led/\(t.plain=false->(layNew t es h x).2.1.plain=false):=by
 unfold layNew;split
 .rename_i z wd e;show zNV _ _
 .show#[rfl,λ_=>rfl]
def zNW(t:bo)(es:Array (Int×F3))(n:Nat):(cy t es n).2.1.led=t.led/\(t.plain=false->(cy t es n).2.1.plain=false):=by
 unfold cy;split
 .rename_i t' z e;unfold SetTable.relaid SetTable.laid at e
  cases q:SetTable.layClean _ _ with
  |none=>rw[q]at e;cases e
  |some ow=>
   rw[q]at e;cases e;simp only;split
   .show#[rfl,id]
   .show#[rfl,λ_=>rfl]
 .show#[rfl,λ_=>rfl]
def zQM{us:L Str}(h:zl (us.map V.str) vs):x∈us↔∃v∈vs,v.isStr x=true:=by
 generalize e:us.map _=xs at h
 induction h generalizing us with
 |nil=>simp_all
 |@cons a v xs vs r h ih=>cases us with
  |nil=>cases e
  |cons y us=>
   rw[kA,nG]at e;obtain⟨rfl,e⟩:=e;obtain⟨t,rfl⟩:=r;dsimp[oA,ih e,exists_eq_or_imp,Value.isStr,beq_iff_eq];show or_congr #[λz=>z.symm,λz=>z.symm] Iff.rfl
section
variable {P:F6}{w:F9}{A:F8}{E:jD}{s:F2}{a:Addr}{ws:L Str}
def Cb{us:L Str}{vs vs':L F3}(h:zl (us.map V.str) vs)(p:vs'.Perm vs):∃z:L Str,zl (z.map V.str) vs'/\z.Perm us:=by
 induction p generalizing us with
 |nil=>show#[us,h,.refl _]
 |@cons v l1 l2 p ih=>
  cases us with
  |nil=>cases h
  |cons x us=>cases h with
   |cons r h=>let(z,h',p'):=ih h;show#[x::z,.cons r h',.cons _ p']
 |swap v v' l=>
  cases us with
  |nil=>cases h
  |cons x us=>cases us with
   |nil=>cases h with|cons r h=>cases h
   |cons y us=>cases h with|cons r h=>cases h with|cons U h=>show#[y::x::us,.cons U<|.cons r h,.swap _ _ _]
 |trans p q J O=>
  let(u1,h1,p1):=O h;let(Y,h2,p2):=J h1;show#[Y,h2,p2.trans p1]
def zUG{Q:Bool->F2->Prop}(hS:TM P w s.heap a ws)(hl:ws.length+1<ay)(h:∀h' b,EC a s.heap h'->TM P w h' a (if x∈ws then ws else ws++[x])->Q b { s with heap:=h' }):
  F5 (F4 P w) A (setAddHashed a (.str x k)<|(jC P w).hash x) Q E s:=by
 let(o,es,ep,t,us,U,hx,hd,hf,led,pl,XZ,hv,hp):=hS;have hk:(jC P w).is x (.str x k)=true:=strKind_is P w x k
 have ls:es.size=ws.length:=by
  have:=hv.length;rw[lA,lA]at this;rw[<- hp.length_eq,this];show vB.symm
 have hb:es.size<ay:=01
 have mm:x∈ws↔∃e∈es.toList,e.2.isStr x=true:=by
  rw[<- hp.mem_iff,zQM hv];show#[by rintro⟨v,hv,q⟩;let(e,he,rfl):=QA.mp hv;show#[e,he,q],λ⟨e,he,q⟩=>#[_,YB he,q]]
 have Ww:∀v,(jC P w).is x v=v.isStr x:=λv=>(jC P w).strs x x k v hk
 unfold setAddHashed setAddHashedIn;refine K3<|Ee<|T8 U hd hf ?_;dsimp only;rw[byScan_of rfl hb XZ,if_pos rfl];unfold setAddByScan;refine Ee<|Ee<|T3<|Ee<|wpAny_setScan_of (knd:=jC P w) hk U hd hf XZ ?_
 cases hr:List.findIdx? (λe=>(jC P w).is x e.2) es.toList with
 |some j=>
  let(hj,hpj,_):=EI.mp hr;have hm:x∈ws:=mm.mpr #[_,MC hj,by rw[<- Ww];show hpj];have:=h s.heap false (Fz a s.heap) (by rw[if_pos hm];show#[o,es,ep,t,us,U,hx,hd,hf,led,pl,XZ,hv,hp])
  show F1<|F1 this
 |none=>
  have hm:x∉ws:=λz=>by
   let(e,he,q):=mm.mp z;have:=List.findIdx?_eq_none_iff.mp hr e he;rw[Ww,q]at this;cases this
  rw[if_neg hm]at h
  have gw:∀(b:Bool){s1:F2}{O:Unit->F2->Prop},O () s1->F5 (F4 P w) A (match b with|true=>rule "set.scan.the-table-gave-way" | false=>pure ()) O E s1:=λb s1 O q=>by
   cases b
   .show F1 q
   .show T3 q
  have p1:=layNew_perm t es ((jC P w).hash x)<|.str x k;have f1:=layNew_fits t es ((jC P w).hash x)<|.str x k;have d1:=zUF t es ((jC P w).hash x)<|.str x k;generalize layNew t es ((jC P w).hash x) (.str x k)=Z at p1 f1 d1|-;let(J,t1,wd,gv):=Z;dsimp only at p1 f1 d1|-;rw[ZP]at p1;have e1:ElemsOf (jC P w) J.toList:=(XZ.push hk rfl).perm p1;let(u1,v1,q1):=Cb (us:=us++[x]) (vs':=J.toList.map (·.2)) (vs:=(es.toList++[((jC P w).hash x,WQ x k)]).map (·.2)) (by rw[uA,uA];show hv.append<|.cons #[k,rfl] .nil)<|p1.map _;have q2:u1.Perm (ws++[x]):=q1.trans<|hp.append_right _;have s1:J.size=ws.length+1:=by rw[<- vB,p1.length_eq,OA,vB,ls];rfl
  have b1:J.size<ay:=01
  have tail:∀(t2:bo),t2.fits J.size=true->(rO w=false->t2.led=true)->t2.plain=false->∀{g:Bool->Sem Unit},(∀(b:Bool)(s1:F2)(O:Unit->F2->Prop),O () s1->F5 (F4 P w) A (g b) O E s1) ->
    ∀{R:Op Bool->F2->Prop},(∀h',EC a s.heap h'->TM P w h' a (ws++[x])->R (some true) { s with heap:=h' }) ->
    F5 (F4 P w) A (do
     storeSet a J t2
     if (!wd&&t2.tooFull)=true then do
         g (cy t2 J<|SetTable.grown J.size).2.2
         storeSet a (cy t2 J<|SetTable.grown J.size).1 (cy t2 J<|SetTable.grown J.size).2.1
         pure (some true)
      else pure (some true)) R E s:=λt2 f2 l2 n2 g hg R hR=>by
   refine Ee<|wpAny_storeSet_of U hd ?_<|bu b1
   have put:∀{h:Heap}{o:Obj}{es:Array (Int×F3)}{ep:Nat}{t:bo}(Y:Array (Int×F3))(t':bo),h.get? a>o->o.data=.set es ep t->(h.update a<|VQ Y t').get? a>{ o with data:=.set Y (ep+1) t' }:=λ{h o es ep t} Y t' U hd=>by
    have:=aC (VQ Y t') U (by rw[putSet_of Y t' hd];rfl);rw[putSet_of Y t' hd]at this;show this
   have g1:=put J t2 U hd;have sb:=lB s.heap a<|VQ J t2;split
   .have p3:=relayAll_perm t2 J<|SetTable.grown J.size;have f3:=relayAll_fits t2 J<|SetTable.grown J.size;have d3:=zNW t2 J<|SetTable.grown J.size;generalize cy t2 J (SetTable.grown J.size)=Z at p3 f3 d3|-;let(Hf,t3,gv2):=Z;dsimp only at p3 f3 d3|-;have s2:Hf.size=J.size:=by rw[<- vB,p3.length_eq,vB]
    refine Ee (hg _ _ _<|Ee<|wpAny_storeSet_of g1 rfl ?_<|bu (by rw[s2];show b1));let(u3,v3,q3):=Cb v1 (p3.map (·.2));show F1 (hR _ (sb.trans<|lB _ a _) #[_,Hf,_,t3,u3,put Hf t3 g1 rfl,hx,rfl,f3,λz=>by rw[d3.1];show l2 z,λ_=>d3.2 n2,e1.perm p3,v3,q3.trans q2])
   .show F1 (hR _ sb #[_,J,_,t2,u1,g1,hx,rfl,f2,l2,λ_=>n2,e1,v1,q2])
  refine Ee<|gw _ ?_;split
  .refine Ee ?_;rw[hashByValue_scannable 8 rfl];refine F1 ?_;dsimp[plainKind,JB,if_false];refine(tail _ (SetTable.fits_plain_off f1) (λz=>d1.1.trans<|led z) rfl (λb s1 O q=>by cases b<;>first|show F1 q|show T3 q) λh' sb S'=>F1<|h h' true sb S')
  .rename_i np;refine Ee<|F1 ?_;dsimp[if_true];refine(tail _ f1 (λz=>d1.1.trans<|led z) ‹np› (λb s1 O q=>by cases b<;>first|show F1 q|show T3 q) λh' sb S'=>F1<|h h' true sb S')
end
noncomputable def GY(ws:L Str)(x:Str):L Str:=if x∈ws then ws else ws++[x]
def GM(xs:L Str):=(xs.foldl GY []:L Str)
def zQN{xs:L Str}(h:xs[i]?>x):GM (xs.take<|i+1)=GY (GM<|xs.take i) x:=by
 unfold GM;rw[List.take_add_one,h,List.foldl_append];rfl
def zQO(ws:L Str)(x:Str):(GY ws x).length<=ws.length+1:=by unfold GY;split<;>simp
theorem vf:∀(xs ws:L Str),(xs.foldl GY ws).length<=ws.length+xs.length
 | [],ws=>by simp
 |x::xs,ws=>by
  have:=vf xs<|GY ws x;have:=zQO ws x;simp;omega
def zJ5(xs:L Str):(GM xs).length<=xs.length:=by have:=vf xs [];simpa[GM] using this
section
variable {P:F6}{w:F9}{A:F8}{E:jD}{s:F2}{R:dr->F2->Prop}{I:Addr}{fp wr:L Addr}{Γ:Array MK->Array MK->Prop}{n:Nat}{p:Nat->F3->Prop}{St:Nat->F2->Prop}
def TM.at{h h':Heap}(x:TM P w h a ws)(k:∀o,h.get? a>o->h'.get? a>o):TM P w h' a ws:=by
 let(o,es,ep,t,us,z,r):=x;show#[o,es,ep,t,us,k o z,r]
def zQP(W:WalksS P w A.in1 I fp wr Γ n p St)(S:Addr)(O:S∉fp)(xs:L Str)(hn:xs.length=n)(hv:∀i v,p i v->∃t x,xs[i]?>x/\v=.str x t)(hb:n+1<ay):
  ∀(k i:Nat)(s:F2),n-i=k->i<=n->St i s->TM P w s.heap S (GM<|xs.take i)->(∀s',Moved (S::wr) Γ s s'->TM P w s'.heap S (GM xs)->R (.ok<|.ret .none) s') ->
   pE (F4 P w) A (.builtin "set.update.loop" #[[.ref S,.ref I],[]]) R s:=by
 have hw:S∉wr:=λh=>O<|W.sub _ h
 have sub:∀b∈wr,b∈S::wr:=λb hb=>cA _ hb
 intro k
 induction k with
 |zero=>
  intro i s hk hi st Lv fin;cases (show i=n by omega);refine N2 PyProof.Rows.F.entry_set_update_loop ?_;refine Ee (W.done s _ _ st λs' z=>F1<|fin s' (z.mono sub) ?_);rw[<- hn,kF]at Lv
  show Lv.at λo e=>z.heap S o hw e
 |succ k ih=>
  intro i s hk hi st Lv fin;have lt:i<n:=01
  refine N2 PyProof.Rows.F.entry_set_update_loop ?_;refine Ee (W.item i s _ _ lt st λv s' hp AC z=>?_);let(t,x,ex,rfl):=hv i v hp;refine Ee<|K3 ?_;unfold setAdd;refine K3<|Ee<|(jC P w).pyHash (k:=x) (strKind_is P w x t) ?_;have ll:=zJ5<|xs.take i;rw[CG]at ll;refine zUG (s:={ s' with toks:=s'.toks+1 }) (Lv.at λo e=>z.heap S o hw e) 01 λh' b U L'=>?_
  have L2:TM P w h' S (GM<|xs.take<|i+1):=by rw[zQN ex];show L'
  refine F1 #[ag PyProof.Rows.F.plain_set_update_loop _,ih (i+1) _ 01 lt (W.frame _ s' _ _ AC (YC _) λb hb o e=>?_) L2 λrR Y J=>?_]
  .rw[U.2 b λh=>O<|h ▸ hb];show e
  .refine fin rR (Moved.trans W.gtrans ((z.mono sub).then_heap (YC _) λb o hb e=>?_) Y) J;rw[U.2 b λh=>hb<|h ▸ eA];show e
def zUH(v:F3){Q:jD}(h:Q (.ref s.heap.objs.size) { s with heap:=s.heap.push { cls:=.type "set",dict:=none,data:=.set [].toArray 0 (.fresh 0 0<|!rO w) } }):
  pE (F4 P w) A (.call (.builtin "set.__new__") #[[.type "set",v],[]]) (wants Q E) s:=by
 refine codeAny_of_tree<|Ee<|cx (PySem.F.newCall_set_1 v)<|F1 #[ag PySem.F.plain_set_new _,N2 PySem.F.entry_set_new ?_];unfold Builtin.«set.__new__» fT;have z:=sub_set_self;dsimp only
 wp_walk
 refine ae<|F1 ?_;dsimp[newObj];show Ee<|wpAny_alloc<|F1<|F1 h
def zUI{xs:L Str}{vs:L F3}(h:zl (xs.map V.str) vs){i:Nat}{v:F3}(e:vs[i]?>v):∃t x,xs[i]?>x/\v=.str x t:=by
 generalize q:xs.map _=ys at h
 induction h generalizing xs i with
 |nil=>simp at e
 |cons r h ih=>cases xs with
  |nil=>cases q
  |cons x xs=>
   rw[kA,nG]at q;let(rfl,q):=q
   cases i with
   |zero=>simp at e;subst e;let(t,rfl):=r;show#[t,x,rfl,rfl]
   |succ i=>simp_all
def zQQ{E:jD}{s:F2}{S l:Addr}{b0:Bool}{od:Op Addr}{U:Nat}{os:Array (Op F3)}{its:Array F3}{F:Fin->F2->Prop}(hS:s.heap.get? S>{ cls:=.type "set",dict:=none,data:=.set [].toArray 0 (.fresh 0 0 b0) })(O9:s.heap.get? l>{ cls:=.type "list",dict:=od,data:=.seq its U,slots:=os })(h:F5 (F4 P w) A (runValue<|.builtin "set.update.loop" #[[.ref S,.ref s.heap.objs.size],[]]) (λ_ s'=>F (.done<|.ret .none) s') E { s with heap:=s.heap.push { cls:=.type "list_iterator",data:=.fields (List.toArray [.ref l,.int 0 0]) } }):
  F5 (F4 P w) A (Builtin.«set.__init__» #[[.ref S,.ref l],[]]) F E s:=by
 have a1:=PySem.F.sub_list_set;have a2:=PySem.F.sub_list_frozenset;have Y:s.heap.IsList l its:=#[_,O9,rfl,U,rfl]
 unfold Builtin.«set.__init__» noKeywords mT;generalize J:dq=PI
 wp_walk
 subst J;refine YK Y ?_;show Ee (K0 h (λ_ s' q=>F1<|F1 q) λ_ _ z=>z)
def zQR{its:Array F3}{xs:L Str}{Q:jD}(hh:A.handled=none)(hl:s.heap.IsList l its)(hi:zl (xs.map V.str) its.toList)(hb:its.size+1<ay)(h:∀(h':Heap)(tk:Nat),TM P w h' s.heap.objs.size (GM xs)->(∀b o,s.heap.get? b>o->h'.get? b>o)->Q (.ref s.heap.objs.size) { s with heap:=h',toks:=tk }):
  F5 (F4 P w) A (call (.type "set") [.ref l]) Q E s:=by
 let(c,tl,jbc):=PySem.F.called_set.mro;have Wj:=PySem.F.called_set.made;have Jd:=PySem.F.called_set.sub;refine XN (codeAny_of_tree<|F1 #[Code.quiet_builtin _<|by decide +kernel,N2 PySem.F.entry_type_call ?_]);rw[Around.under_plain (weight_type_call_type "set" [.ref l] []) rfl];have h1:=PySem.F.called_set.notType;have h2:=PySem.F.called_set.canCreate;have h3:=PySem.F.typeCall_set_1<|.ref l
 repeat (any_goals (first|assumption|wp_step))
 refine T4 (zUH (.ref l) (E:=E) (Q:=λu s1=>u=.ref s.heap.objs.size/\s1={ s with heap:=s.heap.push { cls:=.type "set",dict:=none,data:=.set [].toArray 0 (.fresh 0 0<|!rO w) } }) #[rfl,rfl]) λr s1 hr=>?_
 generalize J:({ cls:=.type "set",dict:=none,data:=.set [].toArray 0 (.fresh 0 0<|!rO w) }:Obj)=N at hr
 cases r with
 |error e=>show hr
 |ok fl=>
  cases fl with
  |ret u=>
   let(rfl,rfl):=hr;have g0:(s.heap.push N).get? s.heap.objs.size>N:=rA _ (by rw[<- J];rfl);have hT:Shared.TypeIs { s with heap:=s.heap.push N } (.ref s.heap.objs.size) "set":=#[N,g0,by rw[<- J]]
   have hli:=PySem.F.called_set.init.lookup;have hbi:=PySem.F.called_set.init.bind<|.ref s.heap.objs.size
   repeat (any_goals (first|assumption|wp_step))
   refine T4 (df (R:=wants (λr s2=>r=.none/\∃h' tk,s2={ s with heap:=h',toks:=tk }/\TM P w h' s.heap.objs.size (GM xs)/\∀b o,s.heap.get? b>o->h'.get? b>o) E) PySem.F.called_set.init.plain PySem.F.entry_set_init<|check_set_init_1 hT ?_) λr2 s2 Y=>?_
   .let(ol,O9,Ic,nl,Wc):=hl;let(oc,od,odt,os):=ol;simp only at Ic Wc;subst Ic;subst Wc;have R0:(s.heap.push N).get? l>{ cls:=.type "list",dict:=od,data:=.seq its nl,slots:=os }:=jA _ O9;have Im:(s.heap.push N).IsList l its:=#[_,R0,rfl,nl,rfl]
    have lt:l<s.heap.objs.size:=CA O9;have sz:(s.heap.push N).objs.size=s.heap.objs.size+1:=MD _ _;have hh3:A.in1.in1.in1.handled=none:=by simp[hh]
    refine zQQ (s:={ s with heap:=s.heap.push N }) (b0:=!rO w) (by rw[J];show g0) R0<|wpAny_runValue ?_;refine zQP ((Walks.list hh3 _ l (by rw[sz];show GA<|oG lt) its).toS) s.heap.objs.size (by rw[sz];dsimp[oA,nE,or_false,not_or];show#[GA<|uE _,ZE lt]) xs (by have:=hi.length;simpa using this) (λi v hv=>zUI hi (by rw[vD];show hv)) hb (its.size-0) 0 _ 01 (LB _) #[#[_,rA _ rfl,rfl,rfl],Im.push _] ?_ ?_
    .show#[N,[].toArray,0,.fresh 0 0<|!rO w,[],jA _ g0,by rw[<- J];show#[rfl,rfl,rfl],by rw[<- J],rfl,λz=>by rw[z];rfl,λz=>by simp at z,λe he=>by simp at he,.nil,.refl _]
    .intro s' U Lv;let(h',g',d',NO,o'):=s';cases (show g'=s.gens from U.gens);cases (show d'=s.drawn from U.drawn);cases (show o'=s.os from U.os);refine#[rfl,h',NO,rfl,Lv,λb o e=>U.heap b o ?_<|jA _<|jA _ e];have:=CA e;rw[sz];dsimp[oA,nE,or_false,not_or];show#[GA this,GA<|oG this]
   .cases r2 with
    |error e=>show Y
    |ok fl2=>
     cases fl2 with
     |ret r=>
      let(rfl,h',tk,rfl,Lv,k):=Y
      repeat (any_goals (first|assumption|wp_step))
      show h _ _ Lv k
     |_=>show Y.elim
  |_=>show hr.elim
end
def GW:Slot "set_iterator" "__next__" "set_iterator.__next__":=.of (owner:="set_iterator") (n:="__next__") (by kernel_rfl) (by decide +kernel) (by decide +kernel) (by decide +kernel) (by first|show .inl (by decide +kernel)|show .inr _) (by kernel_rfl)
def zJ6:TN Uz "set_iterator.__next__" = some Builtin.«set_iterator.__next__»:=X8<|rfl
def zJ7(a:F3):uX "set_iterator.__next__" #[[a],[]]:=rfl
def zUJ:TN Uz "set.__iter__" = some Builtin.«frozenset.__iter__»:=UN (id':="frozenset.__iter__") (by kernel_rfl) rfl (by decide +kernel) (by kernel_rfl)
def CO(h:Heap)(I S:Addr)(n ep:Nat)(f:F3)(i:Nat):=(∃oi,h.get? I>oi/\oi.cls=.type "set_iterator"/\oi.data=.fields [f,.int i 0,.ref S,.int n 0,.int ep 0].toArray:Prop)
section
variable {P:F6}{w:F9}{A:F8}{E:jD}{s:F2}{I S:Addr}{ep i:Nat}{f:F3}{o:Obj}{es:Array (Int×F3)}{t:bo}{Q:Op F3->F2->Prop}
def CO.ty(h:CO s.heap I S n ep f i):s.TypeIs (.ref I) "set_iterator":=by
 let(z,a,b,_):=h;show#[z,a,b]
def zNX{vs:Array F3}{z:Obj}(hh:A.handled=none)(hi:s.heap.get? I>z)(J:z.data=.fields vs)(hk:k<vs.size)(hQ:∀h',CH I s.heap h'->Q none { s with heap:=h' }):
  F5 (F4 P w) A.in1 (do setField (.ref I) k pC;let e <- newExc (.type "StopIteration") [];uT e) (λfin s'=>∃v,fin=PySem.Fin.done (.ret v)/\F5 (F4 P w) A (pure<|some v) Q E s')
   (λe s'=>F5 (F4 P w) A (do let b <- cq e (.type "StopIteration");if b=true then pure none else throw e) Q E s') s:=by
 refine Ee<|K9 hi J hk<|Ee ?_;refine Ee (m:=VN _ _) (cx (a:=pC) (by first|rfl|(rfl)) ?_);refine K2 ?_ (by size_fits);dsimp[uT];refine Ee<|fy ?_;rw[hh];refine Ee<|F1<|eh ?_;refine Ee<|bx (b:=true) #[_,rA _ rfl,rfl] WN ?_;show F1<|hQ _<|((lB ..).extBut.push _).push _
def Dr{h:Heap}{z:Obj}(k:Nat)(v:F3)(hi:h.get? I>z)(J:z.data=.fields vs):(h.update I (tD (·.setIfInBounds k v))).get? I>{ z with data:=.fields (vs.setIfInBounds k v) }:=by
 have e:tD (·.setIfInBounds k v) z={ z with data:=.fields (vs.setIfInBounds k v) }:=by
  let(c,d,O,U):=z;subst J;rfl
 have:=aC (tD _) hi (by rw[e];rfl);rw[e]at this;show this
def Cr{slot:Nat}{r:Op (F3×Nat)}(J:CO s.heap I S es.size ep (.int slot 0) i)(O:s.heap.get? S>o)(hd:o.data=.set es ep t)(hf:t.fits es.size=true)
  (hn:∀{A:F8}{E:jD}{R:Op (F3×Nat)->F2->Prop},R r s->F5 (F4 P w) A (setNext S slot i ep) R E s)
  (h1:∀x nx,r>(x,nx)->∀h',CO h' I S es.size ep (.int nx 0) (i+1)->EC I s.heap h'->Q (some x) { s with heap:=h' })
  (h2:r=none->A.handled=none/\∀h',CH I s.heap h'->Q none { s with heap:=h' }):F5 (F4 P w) A (az<|.ref I) Q E s:=by
 let(U,hi,hc,z):=id J;refine Ee<|bf<|wpAny_callSpecial?_slot J.ty GW<|K1 GW J.ty zJ6 ?_<|zJ7 _;refine Ee<|F1 ?_;refine Ee<|ar hi z ?_;dsimp only;refine Ee<|dj O hd hf ?_;rw[if_neg<|by simp];refine Ee<|hn ?_
 cases r with
 |none=>show zNX (h2 rfl).1 hi z (by simp) (h2 rfl).2
 |some q=>
  let(x,nx):=q;refine Ee (K9 hi z (by simp) ?_);have g1:=Dr 0 (aa nx) hi z;refine Ee (K9 g1 rfl (by simp) ?_);have g2:=Dr 1 (aa<|i+1) g1 rfl;show F1 #[_,rfl,F1<|h1 x nx rfl _ #[_,g2,hc,by simp[aa]]<|(lB ..).trans<|lB ..]
def zRw{ot:Obj}{pl:Array F3}(J:CO s.heap I S es.size ep (.ref ta) i)(U:s.heap.get? S>o)(hd:o.data=.set es ep t)(hf:t.fits es.size=true)(ht:s.heap.get? ta>ot)(Y:ot.data=.seq pl nn)(h1:∀k x,pl[i]?>.int (k:Nat) 0->es[k]?>x->∀h',CO h' I S es.size ep (.ref ta) (i+1)->EC I s.heap h'->Q (some x.2) { s with heap:=h' })(h2:pl[i]?=none->A.handled=none/\∀h',CH I s.heap h'->Q none { s with heap:=h' })(h3:pl[i]?=none\/∃(k:Nat)(x:Int×F3),pl[i]?>.int k 0/\es[k]?>x):F5 (F4 P w) A (az<|.ref I) Q E s:=by
 let(oi,hi,hc,z):=id J;refine Ee<|bf<|wpAny_callSpecial?_slot J.ty GW<|K1 GW J.ty zJ6 ?_<|zJ7 _;refine Ee<|F1 ?_;refine Ee<|ar hi z ?_;dsimp only;refine Ee<|dj U hd hf ?_;rw[if_neg<|by simp];unfold seqItems?;refine Ee<|Ee<|fh ht ?_;rw[Y];refine F1 ?_;simp;rcases h3 with h3|⟨k,x,h3,O⟩
 .rw[h3];refine Ee (K9 hi z (by simp) ?_);show zNX (h2 h3).1 (Dr 0 _ hi z) rfl (by simp) λh' e=>(h2 h3).2 h'<|(lB ..).extBut.trans e
 .rw[h3];refine Ee<|Ee<|T8 U hd hf ?_;dsimp[bD,bne_self_eq_false,O];refine F1 ?_;refine Ee (K9 hi z (by simp) ?_);have g1:=Dr 1 (aa<|(i:Int)+1) hi z;show F1 #[_,rfl,F1<|h1 k x h3 O _ #[_,g1,hc,by simp[aa]]<|lB ..]
end
def zNY:Slot "set_iterator" "__iter__" "set_iterator.__iter__":=.of (owner:="set_iterator") (n:="__iter__") (by kernel_rfl) (by decide +kernel) (by decide +kernel) (by decide +kernel) (by first|show .inl (by decide +kernel)|show .inr _) (by kernel_rfl)
def zQS:TN Uz "set_iterator.__iter__" = some Builtin.«dict_keyiterator.__iter__»:=UN (id':="dict_keyiterator.__iter__") (by kernel_rfl) rfl (by decide +kernel) (by kernel_rfl)
def zQT(a:F3):uX "set_iterator.__iter__" #[[a],[]]:=rfl
section
variable {P:F6}{w:F9}{A:F8}{E:jD}{s:F2}{I S:Addr}{ep i n:Nat}{f:F3}{o:Obj}{es:Array (Int×F3)}{t:bo}
def Qf{Q:jD}(z:CO s.heap I S n ep f i)(h:Q (.ref I) s):F5 (F4 P w) A (dq<|.ref I) Q E s:=by
 refine VG z.ty zNY<|K1 zNY z.ty zQS ?_<|zQT _;show F1 #[_,rfl,"set_iterator",_,z.ty,GW.lookup,h]
theorem Qg{z:Type}:∀{l:L z}{i:Nat}(h:i<l.length),(l[i]::l.eraseIdx i).Perm l
 |x::l,0,h=>.refl _
 |x::l,i+1,h=>(gJ _ _ _).trans<|.cons x<|Qg (l:=l) _
theorem zNZ{z:Type}(nx:Nat->Nat):∀(m k:Nat)(l:L z)(out:Array z),l.length=m->(pickOrder.go nx m k l out).toList.Perm (out.toList++l)
 |0,k,l,out,h=>by
  cases aD.mp h
  simp[pickOrder.go]
 |m+1,k,l,out,h=>by
  have lt:nx k%l.length<l.length:=Us _ 01;unfold pickOrder.go;rw[xB lt];refine(zNZ nx m _ _ _<|by grind).trans ?_;rw[ZP,dB];show List.Perm.append_left _<|(Qg lt)
def zNa{z:Type}(nx:Nat->Nat)(xs:Array z):(dv nx xs).toList.Perm xs.toList:=by
 have:=zNZ nx xs.size 0 xs.toList [].toArray (by simp);simpa[dv] using this
def zUK{Q:Nat->F2->Prop}(hn:n≠0)(h:∀k d,k<n->Q k { s with drawn:=d }):F5 (F4 P w) A (choose src n) Q E s:=λΓ p z=>
 #[hn,h _ _<|Us _<|01]
theorem vg{z:Type}:∀(m:Nat)(xs:L z){s:F2}{Q:L z->F2->Prop},xs.length=m->(∀ys d,ys.Perm xs->Q ys { s with drawn:=d })->F5 (F4 P w) A (drawOrder m xs) Q E s
 |0,xs,s,Q,h,k=>by
  cases aD.mp h
  show F1<|k [] _<|.refl _
 |m+1,[],s,Q,h,k=>by simp at h
 |m+1,x::xs,s,Q,h,k=>by
  refine Ee (zUK (by simp) λi d hi=>?_);rw[xB hi];refine Ee (vg m _ (by rw[List.length_eraseIdx,if_pos hi];omega) λys d' p=>F1 ?_);show k _ d'<|(List.Perm.cons _ p).trans<|Qg hi
def CO.at{h h':Heap}(x:CO h I S n ep f i)(k:∀o,h.get? I>o->h'.get? I>o):CO h' I S n ep f i:=by
 let(z,a,b):=x;show#[z,k z a,b]
def zLc{J:Type}(l:L J)(z:J):(DA l.length).map (λk=>l.getD k z)=l:=by
 refine AJ (by simp) λi h1 h2=>?_
 simp[BG,h2]
theorem zXc{ot:Obj}{ys:L Nat}(hh:A.handled=none)(IZ:S≠I)(O:ta≠I)(hd:o.data=.set es ep t)(hf:t.fits es.size=true)(IV:ot.data=.seq (ys.map λ(i:Nat)=>aa (i:Int)).toArray)(hy:∀k∈ys,k<es.size):
  Walks P w A I [I,S,ta] [I] ys.length (λi v=>(ys.map λk=>(es.toList.map (·.2)).getD k .none)[i]?>v) (λi h=>CO h I S es.size ep (.ref ta) i/\h.get? S>o/\h.get? ta>ot) where
 sub:=λb hb=>by simp at hb;simp[hb]
 frame:=λ_ _ _ st k=>#[st.1.at λo e=>k I (by simp) o e,k S (by simp) o st.2.1,k ta (by simp) ot st.2.2]
 item:=λi s Q E hi st hQ=>by
  have J:(ys.map λ(i:Nat)=>aa i).toArray[i]?>.int ys[i] 0:=by simp[hi,aa]
  have hk:=hy _<|MC hi;refine zRw st.1 st.2.1 hd hf st.2.2 IV (λk x e1 e2 h' I' Y=>?_) (λe=>by rw[J]at e;cases e) (.inr #[_,es[ys[i]],J,by simp[hk]]);rw[J]at e1;have ek:=by have:=e1.symm;simp at this;show Int.ofNat.inj this
  refine hQ x.2 h' _ ?_ #[I',by rw[Y.2 S IZ];show st.2.1,by rw[Y.2 ta O];show st.2.2] λb o U e=>by rw[Y.2 b λz=>U<|by simp[z]];show e
  subst ek;have e3:es.toList[ys[i]]?>x:=by rw[vD];show e2
  rw[vD]at e3;simp[hi,BG,e3]
 done:=λs Q E st hQ=>by
  refine zRw st.1 st.2.1 hd hf st.2.2 IV (λk x e1=>by simp at e1) (λ_=>#[hh,λh' e=>hQ h' _ λb o U q=>e b o (λz=>U<|by simp[z]) q]) (.inl<|by simp)
 self:=λ_ _ _ _ st hQ=>Qf st.1 hQ
def zNb(z:s.heap.get? S>o)(hd:o.data=.set es ep t)(hf:t.fits es.size=true)(hb:rO w=true){R:Op (F3×Nat)->F2->Prop}(h:R (((dv (w.params.setOrder S ep) es)[i]?).map λe=>(e.2,slot)) s):
  F5 (F4 P w) A (setNext S slot i ep) R E s:=by
 refine Ee<|T8 z hd hf<|Ee<|Ee<|ae<|F1 ?_;refine WE (λ_=>?_) (λhc=>absurd hb hc);rw[if_neg<|by simp];refine Ee<|Ee<|T8 z hd hf<|Ee<|Ee<|ae<|F1 ?_;refine WE (λ_=>?_) (λhc=>absurd hb hc);show Ee<|ae<|F1<|F1 h
theorem zXd(hh:A.handled=none)(Y:S≠I)(hd:o.data=.set es ep t)(hf:t.fits es.size=true)(hb:rO w=true):
  Walks P w A I [I,S] [I] ((dv (w.params.setOrder S ep) es).toList.map (·.2)).length (λi v=>((dv (w.params.setOrder S ep) es).toList.map (·.2))[i]?>v) (λi h=>CO h I S es.size ep (.int (0:Nat) 0) i/\h.get? S>o) where
 sub:=λb hb=>by simp at hb;simp[hb]
 frame:=λ_ _ _ st k=>#[st.1.at λo e=>k I (by simp) o e,k S (by simp) o st.2]
 item:=λi s Q E hi st hQ=>by
  refine Cr st.1 st.2 hd hf (λh=>zNb st.2 hd hf hb h) (λx nx e h' U O=>?_) λe=>?_
  .let(q,e1,e2):=bA.mp e;cases e2;show hQ _ h' _ (by rw[MA,vD,e1];rfl) #[U,by rw[O.2 S Y];show st.2] λb o J e=>by rw[O.2 b λz=>J<|by simp[z]];show e
  .rw[lA,vB]at hi;simp at e;omega
 done:=λs Q E st hQ=>by
  refine Cr st.1 st.2 hd hf (λh=>zNb st.2 hd hf hb h) (λx nx e=>?_) λe=>#[hh,λh' e=>hQ h' _ λb o J q=>e b o (λz=>J<|by simp[z]) q]
  let(q,e1,_):=bA.mp e;simp at e1
 self:=λ_ _ _ _ st hQ=>Qf st.1 hQ
def zJ8(J:s.heap.get? S>o)(hd:o.data=.set es ep t)(hf:t.fits es.size=true)(hb:rO w=false)(hl:t.led=true)(hs:es.size<=1){R:Op (F3×Nat)->F2->Prop}(h:R (match es[SetTable.below t.place slot]?,t.place[SetTable.below t.place slot]? with|some (_,x),some j=>some (x,j+1)|_,_=>none) s):F5 (F4 P w) A (setNext S slot i ep) R E s:=by
 refine Ee<|T8 J hd hf<|Ee<|Ee<|ae<|F1 ?_;refine WE (λhc=>absurd (show rO w=true from hc) (by rw[hb];simp)) (λ_=>?_);refine WE (λhc=>?_) (λhc=>?_)
 .have z:(!t.plain&&decide _)=true:=hc;simp at z;omega
 .refine Ee<|show F5 _ _ (if (!t.led && !es.isEmpty)=true then xT _ else pure _) _ _ _ from ?_;rw[hl,mG,mL];show F1<|F1 h
def zNc(xs:Array Nat)(h:xs.size<=1):SetTable.below xs 0=0:=by
 have:xs.size=0\/xs.size=1:=01
 unfold SetTable.below;rcases this with e|e<;>rw[e]<;>simp[SetTable.below.go]
def zUL(p:Nat):SetTable.below [p].toArray (p+1)=1:=by
 unfold SetTable.below;simp[SetTable.below.go]
def zXe(hh:A.handled=none)(IZ:S≠I)(hd:o.data=.set es ep t)(hf:t.fits es.size=true)(hb:rO w=false)(hl:t.led=true)(hs:es.size<=1):
  Walks P w A I [I,S] [I] (es.toList.map (·.2)).length (λi v=>(es.toList.map (·.2))[i]?>v) (λi h=>h.get? S>o/\∃slot:Nat,CO h I S es.size ep (.int slot 0) i/\(i=0->slot=0)/\(i=1->∃p,t.place = [p].toArray/\slot=p+1)):=by
 have ps:t.place.size=es.size:=by simp[SetTable.fits]at hf;show hf.1
 refine#[λb hb=>by simp at hb;simp[hb],λ_ _ _ st k=>?_,λi s Q E hi st hQ=>?_,λs Q E st hQ=>?_,λ_ _ _ _ st hQ=>?_]
 .let(a,J,b,c):=st;show#[k S (by simp) o a,J,b.at λo e=>k I (by simp) o e,c]
 .let(a,J,b,c,_):=st;rw[lA,vB]at hi;have i0:i=0:=01
  subst i0;have:=c rfl;subst this
  obtain⟨p,U⟩:∃p,t.place = [p].toArray:=by
   have:t.place.toList.length=1:=by rw[vB];omega
   match q:t.place.toList,this with
   | [p],_=>show#[p,by rw[<- NN (xs:=t.place),q]]
  obtain⟨e,Y⟩:∃e,es = [e].toArray:=by
   have:es.toList.length=1:=by rw[vB];omega
   match q:es.toList,this with
   | [p],_=>show#[p,by rw[<- NN (xs:=es),q]]
  refine Cr (r:=some (e.2,p+1)) b a hd hf (λh=>zJ8 a hd hf hb hl hs (by rw[zNc _<|01,U,Y];show h)) (λx nx q h' I' sb=>?_) λz=>by cases z
  cases q;show hQ e.2 h' s.toks (by rw[Y];rfl) #[by rw[sb.2 S IZ];show a,p+1,I',λz=>by simp at z,λ_=>#[p,U,rfl]] λb o O e=>by rw[sb.2 b λz=>O<|by simp[z]];show e
 .let(a,J,b,c0,c1):=st;rw[lA,vB]at b c0 c1
  have bl:SetTable.below t.place J=es.size:=by
   have:es.size=0\/es.size=1:=01
   rcases this with z|z
   .rw[c0 z,zNc _<|01,z]
   .let(p,e1,e2):=c1 z;rw[e1,e2,zUL,z]
  show Cr (r:=none) b a hd hf (λh=>zJ8 a hd hf hb hl hs (by rw[bl];simpa using h)) (λx nx q=>by cases q) λ_=>#[hh,λh' e=>hQ h' s.toks λb o O q=>e b o (λz=>O<|by simp[z]) q]
 .let(_,_,b,_):=st;show Qf b hQ
end
section
variable {P:F6}{w:F9}{A:F8}{E:jD}{s:F2}{S:Addr}{ws:L Str}
def zQU(hh:A.handled=none)(hS:TM P w s.heap S ws)(hl:ws.length<ay){Q:jD}
  (h:∀(I:Addr)(fp:L Addr)(vs:L F3)(us:L Str)(St:Nat->Heap->Prop)(h':Heap)(d:Drawn),(∀b o,s.heap.get? b>o->h'.get? b>o)->s.heap.objs.size<=I->(∀b∈fp,b=S\/s.heap.objs.size<=b)->Walks P w A I fp [I] vs.length (λi v=>vs[i]?>v) St->St 0 h' ->
   zl (us.map V.str) vs->us.Perm ws->Q (.ref I) { s with heap:=h',drawn:=d }):F5 (F4 P w) A (dq<|.ref S) Q E s:=by
 let(o,es,ep,t,us,J,hx,hd,hf,led,pl,XZ,hv,hp):=hS;have hT:s.TypeIs (.ref S) "set":=#[o,J,hx.1]
 have CN:=CA J;have O:=hv.length;rw[lA,lA]at O
 replace O:us.length=es.size:=O.trans vB
 have fits:es.size<=sizeLine:=bu (by rw[<- O,hp.length_eq];show hl);refine VG hT kM<|K1 kM hT zUJ ?_<|PySem.F.args_set_iter_1 _;unfold Builtin.«frozenset.__iter__» kT;refine Ee<|Ee (m:=slotArgs _ _ _)<|F1<|F1 ?_;unfold jT;refine Ee<|Ee<|dj J hd hf<|F1 ?_;unfold setDrawn setsByText;refine Ee<|Ee<|T8 J hd hf<|Ee<|Ee<|ae<|F1<|F1 ?_;refine WE (λhc=>?_) (λhc=>?_)
 .refine Ee (vg es.size (DA es.size) (by simp) λys d p=>?_);have yl:ys.length=es.size:=by rw[p.length_eq];simp
  refine Ee (wpAny_newTuple ?_ (by rw[lA,yl];show fits));refine Ee<|wpAny_setEpoch_of (jA _ J) hd hf ?_;refine Ee<|K2<|F1 #[_,rfl,"set_iterator",_,#[_,rA _ rfl,rfl],GW.lookup,?_]
  have pv:(ys.map λk=>(es.toList.map (·.2)).getD k .none).Perm (es.toList.map (·.2)):=by
   refine(p.map _).trans ?_;have:=zLc (es.toList.map (·.2)) pC;rw[lA,vB]at this;rw[this]
  let(U,Y,p'):=Cb hv pv;have sz:=MD s.heap { cls:=.type "tuple",data:=.seq (ys.map λ(i:Nat)=>aa (i:Int)).toArray };have W:=zXc (P:=P) (w:=w) (A:=A) (I:=(s.heap.push { cls:=.type "tuple",data:=.seq (ys.map λ(i:Nat)=>aa (i:Int)).toArray }).objs.size) (S:=S) (ta:=s.heap.objs.size) (ot:={ cls:=.type "tuple",data:=.seq (ys.map λ(i:Nat)=>aa (i:Int)).toArray }) (ys:=ys) hh (by rw[sz];show GA<|oG CN) (by rw[sz];show GA<|uE _) hd hf rfl (λk hk=>‹p.mem_iff.mp hk›);rw[<- lA (as:=ys) (f:=λk=>(es.toList.map (·.2)).getD k pC)]at W;refine h _ _ _ U _ _ d (λb o e=>jA _<|jA _ e) (by rw[sz];show YC _) (λb hb=>?_) W #[#[_,rA _ rfl,rfl,rfl],jA _<|jA _ J,jA _<|rA _ rfl] Y<|p'.trans hp;dsimp[oA,nE,or_false]at hb;rcases hb with rfl|rfl|rfl
  .right;rw[sz];show YC _
  .show .inl rfl
  .show .inr<|wA _
 .have FV:¬ (!rO w&&(!t.plain&&decide (GT.gt es.size 1)))=true:=hc;refine Ee<|F1 ?_;refine Ee<|wpAny_setEpoch_of J hd hf ?_;refine Ee (K2<|F1 #[_,rfl,"set_iterator",_,#[_,rA _ rfl,rfl],GW.lookup,?_])
  have fr:∀b∈[s.heap.objs.size,S],b=S\/s.heap.objs.size<=b:=λb hb=>by
   dsimp[oA,nE,or_false]at hb;rcases hb with rfl|rfl
   .show .inr<|wA _
   .show .inl rfl
  cases hb:rO w with
  |true=>
   let(U,Y,p'):=Cb hv ((zNa (w.params.setOrder S ep) es).map (·.2))
   show h _ _ _ U _ _ s.drawn (λb o e=>jA _ e) (wA _) fr (zXd hh (GA CN) hd hf hb) #[#[_,rA _ rfl,rfl,rfl],jA _ J] Y<|p'.trans hp
  |false=>
   have hs:es.size<=1:=by
    by_cases z:0<es.size
    .simp[hb,pl z]at FV;omega
    .omega
   show h _ _ _ us _ _ s.drawn (λb o e=>jA _ e) (wA _) fr (zXe hh (GA CN) hd hf hb (led hb) hs) #[jA _ J,0,#[_,rA _ rfl,rfl,rfl],λ_=>rfl,λz=>by simp at z] hv hp
def zQV{Q:Bool->F2->Prop}(z:s.TypeIs (.ref S) "set")(h:Q false s):F5 (F4 P w) A (Fy<|.ref S) Q E s:=by
 refine Ee<|wpAny_specialOf z PySem.F.slot_set_len.lookup ?_;generalize J : "set.__len__" = id0;subst J;refine Ee (bx (b:=true) z (by kernel_rfl) ?_);show Ee<|ao z<|F1 h
def zQW{vs:L F3}{acc:Array F3}(h:ItemsOf (λi v=>vs[i]?>v) acc vs.length):acc.toList=vs:=by
 refine AJ (by show h.1) λi h1 h2=>?_
 have:vs[i]?>_:=h.2 i _ (by rw[<- vD];show xB h1);rw[xB h2]at this;show(KB this).symm
def zI6(hh:A.handled=none)(hS:TM P w s.heap S ws)(hl:ws.length<ay){R:L F3->F2->Prop}
  (h:∀(h':Heap)(tk:Nat)(d:Drawn)(vs:L F3)(us:L Str),(∀b o,s.heap.get? b>o->h'.get? b>o)->zl (us.map V.str) vs->us.Perm ws->R vs { s with heap:=h',toks:=tk,drawn:=d }):F5 (F4 P w) A (collect<|.ref S) R E s:=by
 have CN:S<s.heap.objs.size:=by let(o,_,_,_,_,ho,_):=hS;show CA ho
 unfold collect;refine Ee<|wpAny_runValue<|N2 entry_proto_collect' ?_;rw[Around.under_plainId PySem.F.plain_proto_collect _];change F5 _ A.in1 (newList [] >>= λl=>again<|.builtin "list.__iadd__" #[[l,.ref S],[]]) _ _ s;refine Ee<|K2 ?_;refine F1 #[ag uL _,N2 entry_list_iadd' ?_];rw[Around.under_plainId uL _];change F5 _ A.in1 (eI (.ref s.heap.objs.size) (.ref S)<|.ref s.heap.objs.size) _ _ _;have gL:(s.heap.push { cls:=.type "list",data:=.seq ([]:L F3).toArray }).get? s.heap.objs.size>{ cls:=.type "list",data:=.seq [].toArray }:=rA _ rfl;have S1:TM P w (s.heap.push { cls:=.type "list",data:=.seq ([]:L F3).toArray }) S ws:=hS.at λo e=>jA _ e
 have Xp:∀{s1:F2},TM P w s1.heap S ws->s1.TypeIs (.ref S) "set":=λ{s1} q=>by let(o,_,_,_,_,ho,hx,_):=q;show#[o,ho,hx.1]
 have Wy:s.heap.objs.size≠S:=ZE CN;unfold eI;refine Ee<|ao (T:="set") (Xp S1) ?_;have e1:MI (.ref s.heap.objs.size) (.ref S)=false:=by simp[MI,Wy]
 have e2:(lI "set" == lI "list")=false:=02
 have e3:(lI "set" == lI "tuple")=false:=02
 dsimp[e1,e2,e3,dI,JB,if_false];have sz:=MD s.heap { cls:=.type "list",data:=.seq ([]:L F3).toArray };refine Ee (zQU (A:=A.in1) (s:={ s with heap:=s.heap.push { cls:=.type "list",data:=.seq ([]:L F3).toArray } }) hh S1 hl λI fp vs us St h' d hk hI aO W Ab v p=>?_);have Hi:=hk _ _ gL
 have nf:s.heap.objs.size∉fp:=λz=>by
  rcases aO _ z with q|q
  .show Wy q
  .dsimp[sz]at q;show absurd q<|Nat.not_succ_le_self _
 have vl:vs.length<=sizeLine:=by
  have:=v.length;rw[lA]at this;show bu (by rw[<- this,p.length_eq];show hl)
 have key:∀(h2:Heap)(tk c:Nat),St 0 h2->(∀b o,b≠s.heap.objs.size->h'.get? b>o->h2.get? b>o)->h2.get? s.heap.objs.size>{ cls:=.type "list",data:=.seq [].toArray c } ->
   pE (F4 P w) A (.builtin "list.extend.loop" #[[.ref s.heap.objs.size,.ref I,.ref s.heap.objs.size],[]]) (λr s'=>∃h3 J O,r=.ok (.ret<|.ref s.heap.objs.size)/\s'={ s with heap:=h3,toks:=J,drawn:=d }/\(∀b o,s.heap.get? b>o->h3.get? b>o)/\h3.get? s.heap.objs.size>{ cls:=.type "list",dict:=none,data:=.seq vs.toArray O,slots:=[].toArray }) { s with heap:=h2,toks:=tk,drawn:=d }:=λh2 tk c st k2 g2=>by
  refine codeAny_extend_loopS W.toS vl s.heap.objs.size nf (.ref s.heap.objs.size) vs.length 0 _ [].toArray c rfl (LB _) st g2 (ItemsOf.nil _) λs' acc O Y gl ia=>?_
  let(h3,g',d',J,o'):=s';cases (show g'=s.gens from Y.gens);cases (show d'=d from Y.drawn);cases (show o'=s.os from Y.os);have ea:=zQW ia;refine#[h3,J,O,rfl,rfl,λb o e=>?_,by rw[<- ea];simpa using gl];have lb:=CA e;refine Y.heap b o ?_<|k2 b o (GA lb)<|hk b o<|jA _ e;dsimp[oA,nE,or_false,not_or];show#[GA lb,GA<|BA lb<|JA (by rw[sz];show YC _) hI]
 refine Ee (K3<|zQV (Xp<|S1.at λo e=>hk _ _ e) ?_)
 have fin:∀{r:dr}{s':F2},(∃h3 J O,r=.ok (.ret<|.ref s.heap.objs.size)/\s'={ s with heap:=h3,toks:=J,drawn:=d }/\(∀b o,s.heap.get? b>o->h3.get? b>o)/\h3.get? s.heap.objs.size>{ cls:=.type "list",dict:=none,data:=.seq vs.toArray O,slots:=[].toArray }) ->
   (match r with | .ok (.ret u)=>F5 (F4 P w) A (match u with | .ref a=>(do let o <- load a;match o.data with | .seq xs _=>pure xs.toList|_=>xT "internal:collect")|_=>xT "internal:collect") R E s' | .ok _=>False | .error e=>E e s'):=λ{r s'} q=>by
  let(h3,J,O,rfl,rfl,k3,g3):=q;refine Ee<|fh g3 ?_;show F1 ‹h h3 J d vs us k3 v p›
 refine WE (λ_=>?_) (λ_=>?_)
 .refine Ee<|T3 ?_;refine Ee ?_;change F5 _ _ (updateSeq s.heap.objs.size (·.push .none) >>= λ_=>updateSeq s.heap.objs.size (·.pop)) _ _ _;refine Ee<|wpAny_updateSeq Hi rfl ?_;have g2:=aC (GI (·.push pC)) Hi rfl;refine wpAny_updateSeq (hz:=by seq_fits) g2 rfl ?_;have g3:=aC (GI (·.pop)) g2 rfl;refine F1 #[ag nK _,T4 (key _ _ _ ?_ (λb o U e=>?_) g3) λr s' q=>fin q]
  .refine W.frame 0 _ _ Ab λb hb o e=>?_
   have U:b≠s.heap.objs.size:=λz=>nf<|z ▸ hb
   show(lC _ _<|Ne.symm U).trans ((lC _ _<|Ne.symm U).trans e)
  .show(lC _ _<|Ne.symm U).trans ((lC _ _<|Ne.symm U).trans e)
 .show F1 #[ag nK _,T4 (key _ _ _ Ab (λb o _ e=>e) Hi) λr s' q=>fin q]
end
noncomputable def YR(P:F6)(w:F9)(a:Addr)(ws:L Str):HO:=.ext λh=>TM P w h a ws
def tZ:oB "set" = some (.type "set"):=rfl
section
variable {X:Cx}
def zNd(SC:X.calm=true):sJ X (.type "set") (λxs H Q=>∃G ss x,xs=[x]/\zO G H/\GG X.K G H (.lst<|ss.map D.str) x/\ss.length<64/\∀c,H c=none->Q (.ref c) (upd H c<|YR X.prog X.w c<|GM ss)):=by
 intro pins s σ H xs us Q I r h;let(G,ss,x,rfl,sm,r1,hl,k):=h;let(u,rfl,O):=JN r;let(a,vs,rfl,q,J):=r1.list sm;cases Bl J;cases O;let(its,U,p,hz):=I.list q;have l1:=U.length;rw[lA]at l1;refine zQR (I.ok.hd SC) p.isList 01 (by rw[IA];unfold ay;omega) λh' tk Lv keep=>?_
 show#[.ref _,upd H _<|YR _ _ _ _,I.laid keep (wA _) #[Lv,(by let(o,_,_,_,_,z,_):=Lv;show#[o,z]),λh1 h2 q k=>q.at k],rfl,k _ I.fresh]
def zUM(I:Inv X pins σ H s)(d:Drawn):Inv X pins σ H { s with drawn:=d }:=
 #[I.ok,I.os,I.bare,I.base,I.loc,I.cell,I.free,I.freeC,I.pin,I.hok,I.len]
def zH5(SC:X.calm=true):sJ X (.builtin "sorted") (λxs H Q=>∃a ws,xs=[.ref a]/\H a>YR X.prog X.w a ws/\ws.length<64/\∀l,H l=none->Q (.ref l) (upd H l<|.lst<|(KL ws).map V.str)):=by
 intro pins s σ H xs us Q I r h;let(a,ws,rfl,hH,hl,k):=h;let(u,rfl,U):=JN r;cases U;let(Lv,_,_):=(I.hok a _ hH)
 refine nL kind_sorted plain_sorted entry_sorted (args_sorted1 _) ?_;refine Ee<|F1 ?_;refine Ee (zI6 (A:=X.A.in1) (I.ok.hd SC) Lv (by unfold ay;omega) λh' tk d vs us keep v p=>?_);have vl:=v.length;rw[lA]at vl;have pl:=p.length_eq;refine Ee (wpAny_newList ?_ (by rw[K7];omega));have I1:Inv X _ σ H { s with heap:=h',toks:=tk,drawn:=d }:=zUM (I.kept keep) d;have hn:=I1.hok.fresh<|wA _;refine Ee (K3<|K1 slot_list_sort #[_,rA _ rfl,rfl] Ge (Yi (rA _ rfl) (Y5 v) 01 λout O4 a1 a2 a3=>#[_,rfl,F1 #[_,rfl,?_]])<|args_list_sort _);have J:=Mo _ _ ((a2.trans p).trans (qe ws).symm) (Ni a3)<|Cm ws;subst J;let(e',he):=sortedHeap_at<|rA _ rfl;refine#[.ref _,upd H _<|.lst _,I1.laid (λb ob z=>?_) (wA _) #[?_,out.toList,e',Bo a1,?_],rfl,k _ hn]
 .have blt:=CA z;rw[Uy (GA blt)<|BA blt (by rw[MD];show YC _)];show jA _ z
 .rw[lA,(qe ws).length_eq];show GS 01
 .rw[he]
def cX:D->Op (L D)
 |.lst xs=>if xs.length<64 then (LP xs).map λss=>(KL<|GM ss).map D.str else none
 |_=>none
def zLd{f:TB}(SC:X.calm=true)(hg:Gl X "sorted")(hm:X.mg "sorted" = none)(O:Gl X "set")(U:X.mg "set" = none)(ha:SR X a f)(hs:wF X a [])(eE:aG X pos2 [])(Y:wF X (.Call (.Name "set" p2) [a] [] pos2) [])(Iy:aG X pos []):
  SF X (.Call (.Name "sorted" p1) [.Call (.Name "set" p2) [a] [] pos2] [] pos) (tP f cX):=
 lF (FS (zH5 SC) hg hm Cn (zP (Bz (zNd SC) O U tZ (zP ha zZ hs) 02 02 hs eE) zZ Y) 02 02 Y Iy) λσ H Q=>by
  rintro⟨G,ρ,ys,sm,er,ef,k⟩;let(d,e1,z):=aA.mp ef;unfold cX at z;split at z
  .split at z
   .rename_i hl;let(ss,e5,rfl):=bA.mp z;have ex:=G6 e5;subst ex;rw[lA]at hl;have ll:=zJ5 ss;refine#[G,ρ,_,sm,er,e1,λv1 J H1 t1 r1=>#[J,ss,v1,rfl,t1.s,r1,hl,λc hc=>#[c,GM ss,rfl,HA,01,λl hn=>?_]]];have s1:zM J H1 J (upd H1 c<|YR X.prog X.w c<|GM ss):=zM.newH t1.s hc;have s2:=zM.newH (o:=.lst<|(KL<|GM ss).map V.str) s1.s hn;show k l _ J _ ((t1.trans s1).trans s2) ((t1.trans s1).h.free hn) (s1.s.free hn) HA<|EA.strs _
   .cases z
  .cases z
end
def uZ:WJ (.type "ValueError") "__getattribute__" = pure (some<|.builtin "BaseException.__getattribute__"):=by rw[typeLookup_type,builtinLookup_eq_fast];kernel_rfl
def zNe:Slot "ValueError" "__getattribute__" "BaseException.__getattribute__":=.of (owner:="BaseException") (n:="__getattribute__") uZ (by decide +kernel) (by decide +kernel) (by decide +kernel) (by first|show .inl (by decide +kernel)|show .inr (by decide +kernel)) (by rw[isSubtype_type];kernel_rfl)
def zXf:TN Uz "BaseException.__getattribute__" = some Builtin.«object.__getattribute__»:=UN (id':="object.__getattribute__") (by kernel_rfl) (by first|rfl|decide +kernel) (by decide +kernel) (by kernel_rfl)
def zXg(a b:F3):uX "BaseException.__getattribute__" #[[a,b],[]]:=by
 unfold uX
 first|kernel_rfl|(rw[EN];kernel_rfl)
structure XC(K:Fg)(C:Addr):Prop where
 ga:jB K (.ref C) "__getattribute__" = some (some<|.builtin "BaseException.__getattribute__")
 hk:jB K (.ref C) "__getattr__" = some none
 cl:jB K (.ref C) "__class__" = some (some<|.builtin "object.__class__")
 be:iC K (.ref C) (.type "BaseException")>true
 ob:iC K (.ref C) (.type "object")>true
section
variable {prog:F6}{w:F9}{A:F8}{E:jD}{s:F2}{K:Fg}{C e:Addr}{oe:Obj}
def AU{h:Heap}(he:h.get? e>oe)(hc:oe.cls=.ref C):UB M h (cn<|.ref e) (.ref C):=λA Q E s k q=>by
 dsimp[cn];show Ee<|fh (k _ _ he)<|F1<|hc ▸ q
def zQX{Q:Unit->F2->Prop}(X:K.In s.heap)(x:XC K C)(he:s.heap.get? e>oe)(hc:oe.cls=.ref C)(h:Q () s):F5 (F4 prog w) A (checkBuiltinCall "BaseException.__getattribute__" #[[.ref e,nm],[]]) Q E s:=by
 have Lv:UB (F4 prog w) s.heap (cq (.ref e)<|.type "BaseException") true:=(AU he hc).andThen<|JD X x.be;have hk:builtinKind "BaseException.__getattribute__" = some .slot:=by decide +kernel
 have hs:splitId "BaseException.__getattribute__" = some ("BaseException","__getattribute__"):=by decide +kernel
 dsimp[checkBuiltinCall,hk,hs];refine Ee<|Lv.at ?_;dsimp[mG,JB,if_false];have ha:=zXg (.ref e) nm
 cases J:Manifest.signature? "BaseException.__getattribute__" with
 |none=>show F1 h
 |some z=>
  dsimp[uX,J]at ha;change F5 _ A (Bind.checkArgs _ z _) Q E s;rw[ha];show F1 h
def zXh{R:dr->F2->Prop}(X:K.In s.heap)(x:XC K C)(he:s.heap.get? e>oe)(hc:oe.cls=.ref C)(h:R (.ok<|.ret<|.ref C) s):
  pE (F4 prog w) A (.call (.builtin "getset_descriptor.__get__") #[[.builtin "object.__class__",.ref e,.ref C],[]]) R s:=by
 let(hp,g,d,t,os):=s;have z:(#[hp,g,d,t,os]:F2).TypeIs (.builtin "object.__class__") "getset_descriptor":=CF
 have Lv:UB (F4 prog w) hp (cq (.ref e)<|.type<|".".intercalate ("object.__class__".cutAt '.').dropLast) true:=by
  rw[PySem.F.owner_object_class];show(AU he hc).andThen (JD X x.ob)
 refine df PySem.F.slot_gs_get.plain PySem.F.entry_gs_get<|PySem.F.slot_gs_get.check _ _ _ _ _ _ _ _ z (PySem.F.args_gs_get _ _ _) ?_
 repeat (any_goals (first|assumption|(with_reducible refine IB Lv ?_)|wp_step))
 refine#[Code.quiet_builtin _<|by decide +kernel,N2 PySem.F.entry_object_class ?_];have L2:UB (F4 prog w) hp (cn<|.ref e) (.ref C):=AU he hc
 repeat (any_goals (first|assumption|(with_reducible refine IB L2 ?_)|wp_step))
def zUO{Q:Op F3->F2->Prop}(X:K.In s.heap)(x:XC K C)(he:s.heap.get? e>oe)(hc:oe.cls=.ref C)(h:Q (some<|.ref C) { s with toks:=s.toks+1 }):F5 (F4 prog w) A (getAttr? (.ref e) "__class__") Q E s:=by
 let(hp,g,d,t,os):=s;have L1:UB (F4 prog w) hp (cn<|.ref e) (.ref C):=AU he hc;have L2:=gF (M:=F4 prog w) X x.ga;have L3:=gF (M:=F4 prog w) X x.hk;have J:=gF (M:=F4 prog w) X x.cl;have z:∀t,(#[hp,g,d,t,os]:F2).TypeIs (.builtin "object.__class__") "getset_descriptor":=λ_=>CF
 have bd:=zNe.bind<|.ref e;unfold getAttr? getAttrBy?
 repeat (any_goals (first|assumption|(with_reducible refine IB L1 ?_)|(with_reducible refine IB L2 ?_)|(with_reducible refine IB L3 ?_)|wp_step))
 refine df zNe.plain zXf<|zQX (s:=#[hp,g,d,t+1,os]) X x he hc ?_;have O:=CF;have U:=PySem.F.slot_gs_get.lookup;have Y:=PySem.F.slot_gs_set.lookup;have h5:=z<|t+1
 repeat (any_goals (first|assumption|(with_reducible refine IB L1 ?_)|(with_reducible refine IB J ?_)|wp_step))
 refine zXh (s:=#[hp,g,d,t+1,os]) X x he hc ?_
 repeat (any_goals (first|assumption|wp_step))
def zUP{Q:jD}(he:s.heap.get? e>oe)(hc:oe.cls=.ref C)(h:Q (.bool true) s):F5 (F4 prog w) A (call (.builtin "isinstance") [.ref e,.ref C]) Q E s:=by
 refine NM (S:=λ_ R s=>s.heap.get? e>oe/\R (.ok<|.ret<|.bool true) s) (λprog w _ _ s hs=>VL ?_ (by intro z;cases z)) #[he,h];let(hp,g,d,t,os):=s;have L1:UB (F4 prog w) hp (cn<|.ref e) (.ref C):=AU hs.1 hc;unfold Builtin.«isinstance.nested»;refine Ee<|L1.at ?_;rw[if_pos<|by simp];show Ee<|T3<|F1 hs.2
def zUQ{Q:jD}(X:K.In s.heap)(hv:iC K (.ref C) (.type "ValueError")>true)(he:s.heap.get? e>oe)(hc:oe.cls=.ref C)(h:Q (.bool true) s):F5 (F4 prog w) A (call (.builtin "isinstance") [.ref e,.type "ValueError"]) Q E s:=by
 refine NM (S:=λ_ R s=>(K.In s.heap/\s.heap.get? e>oe)/\R (.ok<|.ret<|.bool true) s) (λprog w _ _ s hs=>VL ?_ (by intro z;cases z)) #[#[X,he],h];let(hp,g,d,t,os):=s;let((X,he),h):=hs;have L1:UB (F4 prog w) hp (cn<|.ref e) (.ref C):=AU he hc;have L2:UB (F4 prog w) hp (cq (.ref e)<|.type "ValueError") true:=L1.andThen<|JD X hv;have J:cn (.type "ValueError")=pure (.type "type"):=by kernel_rfl
 unfold Builtin.«isinstance.nested»;refine Ee<|L1.at ?_;rw[if_neg<|λq=>by cases beq_iff_eq.mp q];refine Ee<|cx J ?_;rw[if_pos<|02]
 k_delta "plainIsInstance"
 repeat (any_goals (first|assumption|(with_reducible refine IB L2 ?_)|wp_step))
def zUR{D:Addr}{Q:jD}(X:K.In s.heap)(x:XC K C)(hn:iC K (.ref C) (.ref D)>false)(hd:C≠D)(d0:(fD K D).isSome=true)(d1:jH K (.ref D)>.type "type")(d2:LD K (.ref D) (.type "type")>true)(c0:(fD K C).isSome=true)(c2:LD K (.ref C) (.type "type")>true)
  (he:s.heap.get? e>oe) (hc:oe.cls=.ref C) (h:Q (.bool false) { s with toks:=s.toks+1 }):F5 (F4 prog w) A (call (.builtin "isinstance") [.ref e,.ref D]) Q E s:=by
 refine NM (S:=λ_ R s=>(K.In s.heap/\s.heap.get? e>oe)/\R (.ok<|.ret<|.bool false) { s with toks:=s.toks+1 }) (λprog w _ _ s hs=>VL ?_ (by intro z;cases z)) #[#[X,he],h];let(hp,g,d,t,os):=s;let((X,he),h):=hs;have L1:UB (F4 prog w) hp (cn<|.ref e) (.ref C):=AU he hc;have O:UB (F4 prog w) hp (isSubtype (.ref C)<|.ref D) false:=JD X hn;have L3:UB (F4 prog w) hp (cq (.ref e)<|.ref D) false:=L1.andThen O;have L5:=PySem.W.looks_typeIn (M:=F4 prog w) X d1;have Y:=iH (M:=F4 prog w) X d2;have L7:=iH (M:=F4 prog w) X c2;unfold Builtin.«isinstance.nested»;refine Ee<|L1.at ?_;rw[if_neg<|λq=>hd<|by injection beq_iff_eq.mp q];refine Ee<|L5.at ?_;rw[if_pos<|02]
 k_delta "plainIsInstance"
 unfold isType
 repeat lk
 unfold fD at d0 c0;split at d0
 .rename_i U;split at c0
  .rename_i J;refine dQ (X _ _ U)<|eQ<|F1 ?_;dsimp[mG,JB,if_false];refine Ee<|L3.at ?_;dsimp[JB,if_false];refine Ee<|zUO (s:=#[hp,g,d,t,os]) X x he hc ?_;refine Ee ?_
   repeat lk
   refine dQ (X _ _ J)<|eQ<|F1 ?_;dsimp[mG,JB,if_false];refine Ee<|T3 ?_;refine O.at ?_;show F1 h
  .cases c0
 .cases d0
end
abbrev oQ(X:Cx)(y:Addr)(oe:Obj):Cx:={ EX X y with pn:=(y,oe)::X.pn }
section
variable {X:Cx}{pins:IE}{σ:L2.St}{H:Hp}{s:F2}{y:Addr}{oe:Obj}
def zUS(I:Inv X pins σ H s)(J:MP X pins H y)(he:s.heap.get? y>oe)(U:y∉X.fs)(O:∀v,oe.data≠.cell v):Inv (oQ X y oe) pins σ H s:=by
 refine#[#[I.ok.mod,I.ok.kind,I.ok.glob,I.ok.blt,I.ok.above,I.ok.inj,I.ok.has,I.ok.cab,λz=>(by cases z),I.ok.frames,I.ok.stk,I.ok.exf,I.ok.bs,I.ok.bsz,I.ok.noex,I.ok.exfs,I.ok.funs,I.ok.frf],I.os,I.bare,I.base,I.loc,I.cell,I.free,I.freeC,λp hp=>?_,I.hok,I.len];rcases oA.mp hp with rfl|hp
 .show#[he,J.hH,J.hL,U,O]
 .show I.pin p hp
def zUT(ok:X.Ok)(I:Inv (oQ X y oe) pins σ H s):Inv X pins σ H s:=
 #[ok,I.os,I.bare,I.base,I.loc,I.cell,I.free,I.freeC,λp hp=>I.pin p<|cA _ hp,I.hok,I.len]
end
structure X3(K:Fg)(C R D:Addr):Prop where
 xc:XC K C
 up:iC K (.ref C) (.ref R)>true
 be:iC K (.ref R) (.type "BaseException")>true
 nt:LD K (.ref R) (.type "tuple")>false
 va:iC K (.ref C) (.type "ValueError")>true
 no:iC K (.ref C) (.ref D)>false
 ne:C≠D
 d0:(fD K D).isSome=true
 d1:jH K (.ref D)>.type "type"
 d2:LD K (.ref D) (.type "type")>true
 r0:(fD K R).isSome=true
 c0:(fD K C).isSome=true
 c2:LD K (.ref C) (.type "type")>true
section
variable {X:Cx}{y C R D:Addr}{oe:Obj}
def zQY(x:X3 X.K C R D)(hc:oe.cls=.ref C):sJ (oQ X y oe) (.builtin "isinstance") (λxs H Q=>(xs=[.ref y,.ref C]/\Q (.bl true) H)\/(xs=[.ref y,.ref D]/\Q (.bl false) H)\/(xs=[.ref y,.ty "ValueError"]/\Q (.bl true) H)):=by
 intro pins s σ H xs us Q I r h;have he:=(I.pin (y,oe)<|by simp).1;rcases h with⟨rfl,q⟩|⟨rfl,q⟩|⟨rfl,q⟩<;>let(u,z,rfl,r1,r2):=Tg r<;>cases r1<;>cases r2
 .show zUP he hc #[.bl _,H,I,rfl,q]
 .show zUR I.kIn x.xc x.no x.ne x.d0 x.d1 x.d2 x.c0 x.c2 he hc #[.bl _,H,I.tok _,rfl,q]
 .show zUQ I.kIn x.va he hc #[.bl _,H,I,rfl,q]
end
def zNf{M:Model}{A:F8}{E:jD}{h:Heap}{g:Array MK}{d:Drawn}{t:Nat}{os:OsState}{K:Fg}{e C R D:Addr}{oe:Obj}{Q:Bool->F2->Prop}(X:K.In h)(x:X3 K C R D)(he:h.get? e>oe)(hc:oe.cls=.ref C)(hq:Q true #[h,g,d,t,os]):
  F5 M A (excMatches (.ref e)<|.ref R) Q E #[h,g,d,t,os]:=by
 have L1:UB M h (cn<|.ref e) (.ref C):=AU he hc;have L2:UB M h (isSubtype (.ref C)<|.ref R) true:=JD X x.up;have z:UB M h (cq (.ref R)<|.type "tuple") false:=iH X x.nt;have L5:UB M h (isSubtype (.ref R)<|.type "BaseException") true:=JD X x.be;have r0:=x.r0;unfold fD at r0;split at r0
 .rename_i O;have J:=X _ _ O;unfold excMatches
  repeat (first|(with_reducible refine IB L1 ?_)|(with_reducible refine IB L2 ?_)|(with_reducible refine IB L3 ?_)|(with_reducible refine IB z ?_)|(with_reducible refine IB L5 ?_)|(with_reducible refine wpAny_loadPart_at J ?_)|wp_step)
  show hq
 .cases r0
section
variable {X:Cx}{C R D:Addr}{xc:Str}{np AK:Pos}{en yn:Str}{ie iy:Nat}{wL:Stmt}{rest:L ExceptHandler}
def zUU{σ:L2.St}{s:F2}{h':Heap}{m:AF}{tk:Nat}(I:Inv X pins σ H s)(Y:X.N.Nodup)(nR:X.N[ie]?>en)(hl:∀(i:Nat)(x:Str)(v:V),X.N[i]?>x->σ[i]?>some v->xX X.env.scope x->∃u,z9 v u/\Look X.env s.heap m x u)(hs:EC X.env.locals s.heap h')(hn:h'.Ns X.env.locals (λx=>if x=en then v else m x)):Inv X pins (σ.set ie none) H { s with heap:=h',toks:=tk }:=by
 have same:=λb nb=>hs.2 b nb
 have sS:∀b o,X.s₀.heap.get? b>o->b≠X.env.locals:=λb o e=>GA<|BA (CA e) I.ok.above
 refine#[I.ok,I.os,I.bare,#[λb o e n hb hx=>?_,λb o e n hb hx=>?_,I.base.free,λb o e hx=>?_,I.base.tups,I.base.frzs,I.base.tbls],#[_,hn,λi x v' e1 J e3=>?_],λx c e=>?_,I.free,I.freeC,λp hp=>?_,λb ob e=>?_,by rw[cH];show I.len]
 .rw[same b<|sS b o e];show I.base.keep b o e n hb hx
 .rw[same b<|sS b o e];show I.base.slot b o e n hb hx
 .rw[same b<|sS b o e];show I.base.there b o e hx
 .by_cases hi:i=ie
  .subst hi;rw[List.getElem?_set]at J;simp at J
  .rw[LA<|λz=>hi z.symm]at J;let(u,r,l):=hl i x v' e1 J e3
   have nx:x≠en:=λz=>by
    subst z;have h1:=(vA.mp e1)
    have h2:=(vA.mp nR)
    show hi<|(NR Y).mp<|h1.2.trans h2.2.symm
   refine#[u,r,l.imp (λq=>#[q.1,by dsimp[if_neg nx];show q.2]) λq=>#[q.1,?_]];let(c,hc,o,O,hd):=q.2;show#[c,hc,o,by rw[same c<|I.cne x c hc];show O,hd]
 .let(v,o,O,hd):=I.cell x c e;show#[v,o,by rw[same c<|I.cne x c e];show O,hd]
 .let(q1,U):=I.pin p hp;show#[by rw[same _ U.2.1];show q1,U]
 .refine(I.hok b ob e).stay (λc w' hc q=>?_) (λ_ q=>q) λ_ _ q=>q
  rw[same c ?_]
  .show q
  .rintro rfl;rcases hc with rfl|hc
   .rw[I.free]at e;cases e
   .rw[I.free]at hc;cases hc
def zQZ(x:X3 X.K C R D)(hg:Gl X xc)(hm:X.mg xc>.ref R)(wI:X.stack=X.env::X.outer)(lR:X.env.frame>X.env.locals){σ:L2.St}{s:F2}(I:Inv X pins σ H s)(fl:eV X.stack y T (.ref C) s.heap)(ny:MP X pins H y)(nT:MP X pins H T)(hN:X.N.Nodup)(nR:X.N[ie]?>en)(O:X.env.scope.names.lookup en>.local){D':MQ}(hb:∀oe,oe.cls=.ref C->oK (oQ X y oe).nox [wL] th)(ht:th #[λU H'=>D'.nx (U.set ie none) H',λ_ _=>False,λ_ _=>False,λ_ _=>False] (σ.set ie<|some<|.ref y) H){E:jD}(hd:XH xc):
  F5 (F4 X.prog X.w) X.A (bc (.ref y) X.env) (λ_ XG=>F5 (F4 X.prog X.w) X.A (setFlight (.ref y) none) (λ_ iB=>
   F5 (F4 X.prog X.w) X.A (handleBy (.ref y) X.env (.ExceptHandler (some<|.Name xc np) (some en) [wL] AK::rest)) (SP X pins D') E iB) E XG) E s:=by
 let(a0,fl):=fl;rw[wI]at fl;have NT:=I.ok.frames;rw[wI]at NT;have R4:∀h',RG _ h'->RG (wC s.heap (y::T::oH X.stack)) h':=λh' z=>by rw[wI];show z
 refine OM NT lR fl λh4 pQ uW=>?_
 refine wpAny_landsW pQ λh5 vV R5=>?_
 have I5:=Dp I ny nT (R4 _ vV.1)<|uW.trans R5;let(ob,Iu,TV):=vV.there;refine YU (codeAny_handlers_test ?_) (by intro q;cases q);refine ZX (Sa I5 y) hg hm ?_ hd;refine zNf I5.kIn x Iu TV<|codeAny_handlers_suite_as ?_;refine lands_againW vV λh6 o9 Mb=>?_
 have I6:=Dp I ny nT (R4 _ o9.1)<|(uW.trans R5).trans Mb;let(k1,k2,k3,oe,vs,T',oT,ts,Wn,Iw,Q0,_):=o9
 have nf:y∉X.fs:=λz=>by
  let(_,o,ho,Y):=k3.mem (show y∈oH _ from by unfold oH;rw[rC,lR];show cA _ z);rw[Wn]at ho;cases ho;show Y _ Q0
 have nc:∀v,oe.data≠.cell v:=λv z=>by rw[Q0]at z;cases z
 have J:=zUS I6 ny Wn nf nc;refine Cf (X:=oQ X y oe) (v:=.ref y) J hN nR (.inl O) rfl (λs7 I7=>?_)<|.inr O;refine K0 (hb oe Iw.1 _ s7 _ H _ (I7.wish _) ht) (λfw s2 q=>?_) λ_ _ z=>False.elim z
 have q:=SP.unwish q
 cases fw with
 |next=>
  let(U,H',I',q):=q;have I8:=zUT I.ok I';let(m,hn,hl):=I8.loc
  show wpAny_nameGoes_keeps O hn (by rw[I.ok.kind];rfl) λh' v aU hs=>#[U.set ie _,H',zUU I8 hN nR hl hs aU,q]
 |brk=>let(_,_,_,q):=q;show q.elim
 |cont=>let(_,_,_,q):=q;show q.elim
 |ret u=>let(_,_,_,_,_,q):=q;show q.elim
end
section
variable {X:Cx}{κ:Nat->Addr}{C R D:Addr}{e:Expr}{es:L Expr}{fl:XA->Op (L RD.D)}{x xC xD xR yn en:Str}{i ie k n:Nat}
 {pos p gB jN pos' np AK q1 q2 q3 q4 q5 q6 p1 p2 p3 r1 r2 r3 u1 bp a1 a2 a3 ip:Pos} {j:Nat}
def Gu:oB "ValueError" = some (.type "ValueError"):=rfl
def uD.setUn{K:Fg}{G0 H0 G H:Hp}{ρ:XA}{σ:L2.St}{ie:Nat}(s:uD K G0 H0 G H ρ σ)(h:ρ[ie]?>.un)(v:Op V):uD K G0 H0 G H ρ (σ.set ie v):=by
 have at_:∀{i:Nat}{u:Sl},ρ[i]?>u->u≠.un->(σ.set ie v)[i]?=σ[i]?:=λ{i u} q n=>LA λz=>n (by simp_all)
 have ob:∀{u:Sl},u.isObj=true->u≠.un:=λo z=>by subst z;cases o
 refine#[#[by rw[cH];show s.er.len,λi d q=>?_,λi u q o=>?_,λi j u t b c ne q1 J U O h1 h2=>?_],s.bs,λi u a q o h1=>?_]
 .rw[at_ q<|by simp];show s.er.val i d q
 .rw[at_ q<|ob o];show s.er.slot i u q o
 .rw[at_ q1<|ob<|Sl.obj_of_own J]at h1;rw[at_ U<|ob O]at h2;show s.er.sep i j u t b c ne q1 J U O h1 h2
 .rw[at_ q<|ob<|Sl.obj_of_own o]at h1;show s.ows i u a q o h1
end
noncomputable def Kr(a:Addr):Sl->Sl
 |.b _ x=>.b a x
 |s=>s
noncomputable def ZS(as:Nat->Addr):Nat->L Sl->L Sl
 |_,[]=>[]
 |p,s::r=>Kr (as p) s::ZS as (p+1) r
theorem zJ9{as:Nat->Addr}:∀{p:Nat}{xs:L Sl},(ZS as p xs).length=xs.length
 |_,[]=>rfl
 |p,_::r=>by simp[ZS,zJ9]
theorem zNg{as:Nat->Addr}:∀{xs:L Sl}{p i:Nat},(ZS as p xs)[i]?=(xs[i]?).map (Kr<|as<|p+i)
 | [],p,i=>rfl
 |s::xs,p,0=>rfl
 |s::xs,p,i+1=>by rw[show p+(i+1)=p+1+i by omega];show zNg (xs:=xs)
def dX(K:Fg)(G H:Hp):Sl->V->Prop
 |.v d,v=>Rep K G d v
 |.b _ x,v=>∃a,v=.ref a/\At K G H x a
 |.z kvs,v=>∃a,v=.ref a/\gK K G H (.z kvs) a
 |_,_=>False
def HQ(K:Fg)(G H:Hp):L Sl->L V->Prop
 | [],vs=>vs=[]
 |s::xs,vs=>∃v r,vs=v::r/\dX K G H s v/\HQ K G H xs r
section
variable {K:Fg}{G H G' H':Hp}
def dX.step(t:zM G H G' H')(r:dX K G H s v):dX K G' H' s v:=by
 cases s with
 |v d=>show Rep.mono t.g _ _ r
 |b c x=>let(a,e,A):=r;show#[a,e,A.step t]
 |z kvs=>let(a,e,A):=r;show#[a,e,(A.same t.g λ_ m=>by cases m).1]
 |_=>cases r
theorem HQ.len:∀{xs:L Sl}{vs:L V},HQ K G H xs vs->xs.length=vs.length
 | [],_,h=>by rw[h];rfl
 |_::_,_,⟨v,r,e,_,h⟩=>by rw[e];simp[HQ.len h]
theorem HQ.at:∀{xs:L Sl}{vs:L V}{i:Nat}{s:Sl},HQ K G H xs vs->xs[i]?>s->∃v,vs[i]?>v/\dX K G H s v
 |_::_,_,0,_,⟨v,r,e,q,h⟩,z=>by simp_all
 |_::_,_,i+1,_,⟨v,r,e,q,h⟩,z=>by rw[e];show HQ.at (i:=i) h z
 | [],_,i,_,_,z=>by simp at z
noncomputable def sP(vs:L V)(p:Nat):Addr:=match vs[p]? with
 |some (.ref a)=>a
 |_=>0
def HQ.er{vs:L V}(r:HQ K G H xs vs):Er K G H (ZS (sP vs) 0 xs) (vs.map some)/\∀(i:Nat) s,(ZS (sP vs) 0 xs)[i]?>s->s.isOwn=false:=by
 have at':∀{i:Nat}{s:Sl},(ZS (sP vs) 0 xs)[i]?>s->∃u v,s=Kr _ u/\(vs.map _)[i]?>some v/\vs[i]?>v/\dX K G H u v:=λ{i s} h=>by
  rw[zNg,lJ]at h;let(u,e,rfl):=bA.mp h;let(v,e1,O):=r.at e;show#[u,v,rfl,by rw[MA,e1];rfl,e1,O]
 have own:∀(i:Nat) s,(ZS _ 0 xs)[i]?>s->s.isOwn=false:=λi s h=>by
  let(u,v,rfl,_,_,q):=at' h;cases u<;>first|rfl|cases q
 refine#[#[by rw[zJ9,lA];show r.len,λi d h=>?_,λi s h o=>?_,λi j s t a b ne h1 J=>by rw[own i s h1]at J;cases J],own]
 .let(u,v,e,h2,_,q):=at' h;cases u<;>cases e;show#[v,h2,q]
 .let(u,v,rfl,h2,h3,q):=at' h
  cases u with
  |b c x=>
   let(a,rfl,A):=q
   show#[a,h2,#[#[A.rep,A.nd],by unfold sP;rw[h3]],A.fr]
  |z kvs=>let(a,rfl,A):=q;show#[a,h2,A,λc m=>by cases m]
  |v d=>cases o
  |_=>cases q
end
noncomputable def Lc(K:Fg)(g:L Sl->Op (D ⊕ L D))(n:Nat):Sp:=λvs H Q _=>∃G xs r,zO G H/\HQ K G H xs vs/\xs.length=n/\g xs>r/\match r with
 |.inl d=>∀v G' H',zM G H G' H'->Rep K G' d v->Q v H'
 |.inr ds=>∀a us G' H',zM G H G' H'->H a=none->G' a=none->H' a>.lst us->EA K G' ds us->Q (.ref a) H'
noncomputable def A8(N:L Str)(F:AB)(xs:L Sl)(as:Nat->Addr):Op (D ⊕ L D):=(F<|ZS as 0 xs++nA (N.length-xs.length) .un).bind λo=>match o with
 |.rt d=>some<|.inl d
 |.ro (.l ds)=>some<|.inr ds
 |_=>none
def Eh{P:F6}{w:F9}{K:Fg}{mg:AF}{base:Heap}{x qual:Str}{st:Stmt}{fa:Addr}{fd:K5}{N ps:L Str}{k:Nat}{F:AB}{g:L Sl->Op (D ⊕ L D)}
  (U:XJ K x qual st fa fd) (S:yA N ps (zH st))
  (SD:∀(J:F3)(A:F8)(outer:L Env)(s:F2)(H:Hp),qB k (A.deeper<|N9 qual (zH st) s.heap.objs.size fa J)->pK (sO SH P w K mg base N qual (zH st) fa J A outer s H E0).nox (yI st) F)
  (hf:∀xs r,g xs>r->∀as,A8 N F xs as>r):PH P w K mg base SH (k+1) fa fd ps (Lc K g ps.length):=by
 refine U.ok S (λvs H Q E h=>?_) (λJ A outer s H vs Q E hr h=>?_)
 .let(G,xs,r,_,q,hn,_):=h;rw[<- q.len,hn]
 .let(G,xs,r,sm,q,hn,ef,O):=h;have h1:=SD _ A outer s H hr;refine#[_,h1,?_];let(Y,own):=q.er;let(o,e1,z):=aA.mp<|hf xs r ef _;have er:=Y.app (N.length-xs.length) (nA (N.length-xs.length) none) (by simp);rw[show L2.dM N vs=vs.map _++nA (N.length-xs.length) _ by rw[sU,q.len]];refine#[G,H,G,_,o,#[er,#[sm,zO.refl _,zO.refl _,λb o e n=>by rw[e]at n;cases n],λi u b h1 h2 h3=>?_],e1,?_]
  .rcases pA.mp (xA h1) with m|m
   .let(j,hj):=SN.mp m;rw[own j u hj]at h2;cases h2
   .rw[(NC.mp m).2]at h2;cases h2
  cases o with
  |rt d=>
   cases z
   showλv G' H' b r'=>O v G' H' #[b.gg,b.hh,b.gh,b.fr] r'
  |ro u=>
   cases u with
   |l ds=>
    cases z
    showλa G' H' b ⟨us,r1,r2⟩ n=>O a us G' H' #[b.gg,b.hh,b.gh,b.fr] (n a<|gA.mpr rfl).2 (n a<|gA.mpr rfl).1 r1 r2
   |_=>cases z
  |nx ρ=>cases z
  |bk ρ=>cases z
  |ct ρ=>cases z
  |rm d ρ=>cases z
abbrev eX(P w K mg base k x n g):=Df P w K mg base SH k x<|Lc K g n
def tAQ(K:Fg)(fl:XA->Op (L Sl)):=(λσ H Q=>∃G ρ xs,zO G H/\Er K G H ρ σ/\fl ρ>xs/\∀vs G' H',zM G H G' H'->HQ K G' H' xs vs->Q vs H':TA)
structure FT(X:Cx)(es:List Expr)(fl:XA->Option (List Sl)):Prop where
 pa:PA X es (tAQ X.K fl)
 len:∀ρ xs,fl ρ>xs->xs.length=es.length
noncomputable def qV(f:TB)(fl:XA->Op (L Sl)):XA->Op (L Sl):=λρ=>(f ρ).bind λd=>(fl ρ).map (.v d :: ·)
noncomputable def qT(i:Nat)(fl:XA->Op (L Sl)):XA->Op (L Sl):=λρ=>((ρ[i]?).bind λu=>match u with
 |.z kvs=>some<|.z kvs
 |_=>(FW ρ i).map (.b 0 ·)).bind λs=>(fl ρ).map (s :: ·)
section
variable {X:Cx}{o e:Expr}{es:L Expr}{p pos:Pos}{i k n:Nat}{x:Str}{f:TB}{fl:XA->Op (L Sl)}{g:L Sl->Op (D ⊕ L D)}
theorem zUX:FT X [] zE where
 pa:=GR zZ λσ H Q=>by
  rintro⟨G,ρ,xs,s,er,z,k⟩;cases z;show k [] G H (zM.refl s) rfl
 len:=λρ xs h=>by simp_all
theorem j4(ha:SE X e f)(hr:FT X es fl)(hs:wF X e es):FT X (e::es) (qV f fl) where
 pa:=GR (zP ha hr.pa hs) λσ H Q=>by
  rintro⟨G,ρ,xs,s,er,J,k⟩;let(d,e1,J):=aA.mp J;let(O,z,rfl):=bA.mp J;show#[G,ρ,d,s,er,e1,λv U H1 t1 r1=>#[U,ρ,O,t1.s,er.step t1,z,λvs G' H' t r=>k _ G' H' (t1.trans t) #[v,vs,rfl,Rep.mono t.g _ _ r1,r]]]
 len:=λρ xs h=>by
  let(d,e1,h):=aA.mp h;let(O,z,rfl):=bA.mp h;simp[hr.len _ _ z]
theorem b4(i:Nat)(ho:PE X o (qk i))(hr:FT X es fl)(hs:wF X o es):FT X (o::es) (qT i fl) where
 pa:=GR (zP ho hr.pa hs) λσ H Q=>by
  rintro⟨G,ρ,xs,s,er,O,k⟩;let(u,e1,O):=aA.mp O;let(Y,J,rfl):=bA.mp O;let(w,e0,e1):=aA.mp e1
  have go:∃a,σ[i]?>(some<|.ref a)/\dX X.K G H u (.ref a):=by
   split at e1
   .cases e1;let(a,z,U,_):=er.slot i _ e0 rfl;show#[a,z,a,rfl,U]
   .let(y,e3,rfl):=bA.mp e1;let(a,z,A):=Ph er e3;show#[a,z,a,rfl,A]
  let(a,z,U):=go;show#[_,z,G,ρ,Y,s,er,J,λvs G' H' t r=>k _ G' H' t #[_,vs,rfl,U.step t,r]]
 len:=λρ xs h=>by
  let(d,e1,h):=aA.mp h;let(Y,J,rfl):=bA.mp h;simp[hr.len _ _ J]
noncomputable def D7(fl:XA->Op (L Sl))(g:L Sl->Op (D ⊕ L D)):TB:=λρ=>(fl ρ).bind λxs=>(g xs).bind (·.getLeft?)
noncomputable def KS(fl:XA->Op (L Sl))(g:L Sl->Op (D ⊕ L D)):FD:=λρ=>(fl ρ).bind λxs=>(g xs).bind (·.getRight?)
def zKB(h:eX X.prog X.w X.K X.mg X.base k x n g)(hr:qB k X.A)(hg:X.env.kindOf x>.globalImplicit)(hn:(e::es).length=n)(ha:FT X (e::es) fl)(O:XH x)
  (he:wF X e es) (eE:aG X pos es) :
  PE X (.Call (.Name x p) (e::es) [] pos) (λσ H Q=>∃G ρ xs r,zO G H/\Er X.K G H ρ σ/\fl ρ>xs/\g xs>r/\match r with
   |.inl d=>∀v G' H',zM G H G' H'->Rep X.K G' d v->Q v H'
   |.inr ds=>∀a us G' H',zM G H G' H'->H a=none->G' a=none->H' a>.lst us->EA X.K G' ds us->Q (.ref a) H'):=by
 let(f,fd,ps,U,hm,hk,hb):=h.ex;refine lF (DW U hr hg hm hk hb .nil FR ha.pa O he eE) λσ H Q ⟨G,ρ,xs,r,s,er,e1,e2,J⟩=>#[G,ρ,xs,s,er,e1,λvs Y H1 t r1=>?_]
 change Lc _ g n _ H1 _ E0;rw[WA];refine#[Y,xs,r,t.s,r1,by rw[ha.len _ _ e1];show hn,e2,?_]
 cases r with
 |inl d=>showλv G' H' t' z=>J v G' H' (t.trans t') z
 |inr ds=>showλa us G' H' t' h1 h2 h3 z=>J a us G' H' (t.trans t') (t.h.free h1) h2 h3 z
def zQb(h:eX X.prog X.w X.K X.mg X.base k x n g)(hr:qB k X.A)(Y:X.env.kindOf x>.globalImplicit)(hn:(e::es).length=n)(ha:FT X (e::es) fl)(J:XH x)
  (he:wF X e es) (U:aG X pos es):SE X (.Call (.Name x p) (e::es) [] pos) (D7 fl g):=
 lF (zKB h hr Y hn ha J he U) λσ H Q=>by
  rintro⟨G,ρ,d,s,er,z,kk⟩;let(xs,e1,z):=aA.mp z;let(r,O,z):=aA.mp z;cases r<;>cases z;show#[G,ρ,xs,_,s,er,e1,O,kk]
def zQc(h:eX X.prog X.w X.K X.mg X.base k x n g)(hr:qB k X.A)(Y:X.env.kindOf x>.globalImplicit)(hn:(e::es).length=n)(ha:FT X (e::es) fl)(J:XH x)
  (he:wF X e es) (U:aG X pos es):SF X (.Call (.Name x p) (e::es) [] pos) (KS fl g):=
 lF (zKB h hr Y hn ha J he U) λσ H Q=>by
  rintro⟨G,ρ,d,s,er,z,kk⟩;let(xs,e1,z):=aA.mp z;let(r,O,z):=aA.mp z;cases r<;>cases z;show#[G,ρ,xs,_,s,er,e1,O,kk]
end
def zRx{X:Cx}{e:Expr}{t:TE}(h:PE X e t):PE X e (λσ H Q=>∃a vs,H a>.dT vs/\∀od,t σ (upd H a<|.frz od<|.dT vs) λv H'=>H' a>(.frz od<|.dT vs)/\Q v (upd H' a<|.dT vs)):=by
 intro pins s σ H Q I h0;let(a,vs,e1,k):=h0;have hz:∀o v,X.H₀ a≠some _:=λo v e=>by rw[I.base.frzs a o v e]at e1;cases e1
 have w:=(I.hok a _ e1)
 let(_,_,_,_,od,_,_,U,_):=id w;have stay:∀{J:Hp}{h3:Heap}{u u':HO},J a>u->(∀xs,u≠.tup xs)->(∀y,u≠.own y)->qA X.prog X.w J h3 a _->qA _ _ (upd J a u') h3 a (.dT vs):=λz n1 n2 w=>w.stay (λ_ _ _ q=>q) (λc q=>by rw[zD<|λy=>by simp_all];show q) λc xs q=>by rw[zD<|λy=>by grind];show q
 refine iD (h _ s σ _ _ (Dq (u':=.frz od _) I e1 nofun nofun nofun hz #[U,stay e1 nofun nofun w])<|k od) λv s' zz=>?_
 let(x,H',O,Y,hb,q):=zz;show#[x,_,Dq O hb nofun nofun nofun hz (stay hb nofun nofun (O.hok a _ hb).2),Y,q]
noncomputable def d8:Sl->Sl
 |.l xs=>.v<|.lst xs
 |s=>s
noncomputable def lend(j:Nat)(ρ:XA):Op XA:=match ρ[j]? with
 |some (.o _<|.p<|.tl kvs)=>some ((ρ.map d8).set j<|.z<|kvs.map λq=>(q.1,.lst q.2))
 |_=>none
theorem zv.frz{K:Fg}{G H G':Hp}(g:zO G G'):∀{xs:L (L D)}{vs:L V},zv K G H xs vs->(∀b us,.ref b∈vs->H b>.lst us->G' b>.lst us)->EA K G' (xs.map D.lst) vs
 | [],_,h,_=>zc.mpr h
 |x::xs,_,h,m=>by
  let(b,us,t,rfl,e,r,l):=h;show EA.cons (qD.mpr #[b,us,rfl,vF.of<|m b us (eA ..) e,EA.mono g _ _ r]) (zv.frz g l λc us z=>m c us<|cA _ z)
def Er.lend{K:Fg}{G H:Hp}{ρ ρ':XA}{σ:L2.St}{j:Nat}(e:Er K G H ρ σ)(s:zO G H)(h:lend j ρ>ρ'):∃a vs,H a>.dT vs/\∀od,∃G',zO G G'/\zO G' (upd H a<|.frz od<|.dT vs)/\Er K G' (upd H a<|.frz od<|.dT vs) ρ' σ:=by
 classical
 unfold RD.lend at h;split at h
 .rename_i c kvs hj;cases h;let(a,qa,(((vs,w1,w2,w3),_),_),fr):=e.slot j _ hj rfl;have Vr:ED H (.o c<|.p<|.tl kvs) a=a::YG vs:=by dsimp[ED,VD,BE];rw[w1];rfl
  refine#[a,vs,w1,λod=>?_]
  let Lv:Addr->Prop:=λc=>(∃(i:Nat)(xs:L D),ρ[i]?>.l xs/\σ[i]?>(some<|.ref c))\/c∈YG vs
  let G':Hp:=λc=>if c=a then some (.frz od<|.dT vs) else if Lv c then H c else G c
  have ga:G' a>(.frz od<|.dT vs):=if_pos rfl;have O:∀{c},c≠a->Lv c->G' c=H c:=λn h=>(if_neg n).trans<|if_pos h
  have no:∀{c},c≠a->¬ Lv c->G' c=G c:=λn h=>(if_neg n).trans<|if_neg h
  have na:G a=none:=fr a (by rw[Vr];show eA ..)
  have gg:zO G G':=λc o h=>by
   have n:c≠a:=λz=>by rw[z,na]at h;cases h
   by_cases z:Lv c
   .rw[O n z];show s c o h
   .rw[no n z];show h
  have gh:zO G' (upd H a<|.frz od<|.dT vs):=λc o h=>by
   by_cases n:c=a
   .subst n;rw[HA,<- ga];show h
   rw[zD n];by_cases z:Lv c
   .rw[<- O n z];show h
   .rw[no n z]at h;show s c o h
  have at':∀{i:Nat}{t:Sl},((ρ.map d8).set j<|.z<|kvs.map λq=>(q.1,.lst q.2))[i]?>t->(i=j/\t=.z (kvs.map λq=>(q.1,.lst q.2)))\/(i≠j/\∃u,ρ[i]?>u/\t=d8 u):=λ{i t} h=>by
   rcases zd h with⟨e1,e2,_⟩|⟨n,h⟩
   .show .inl #[e1,e2]
   .rw[MA]at h;let(u,e1,e2):=bA.mp h;show .inr #[n,u,e1,e2.symm]
  have obj:∀{u:Sl},(d8 u).isObj=true->d8 u=u/\∀xs,u≠.l xs:=λ{u} h=>by cases u<;>first|(cases h;done)|show#[rfl,nofun]
  have same:∀{i:Nat}{u:Sl}{b:Addr},i≠j->ρ[i]?>u->u.isObj=true->(∀xs,u≠.l xs)->σ[i]?>(some<|.ref b)->gK K G' (upd H a<|.frz od<|.dT vs) u b/\ED (upd H a<|.frz od<|.dT vs) u b=ED H u b/\∀c∈ED H u b,G' c=none:=λ{i u b} n h1 o Y q=>by
   let(b',J,U,f3):=e.slot i u h1 o;rw[q]at J;cases J;have sj:∀c∈ED H u b,c∉a::YG vs:=λc m z=>e.sep j i _ u a b (Ne.symm n) hj rfl h1 o qa q c (by rw[Vr];show z) m
   have ne:∀c∈ED H u b,c≠a:=λc m z=>sj c m (by rw[z];show eA ..)
   have r:=U.same gg (H':=upd H a<|.frz od<|.dT vs) λc m v z=>by rw[zD<|ne c m];show z
   refine#[r.1,r.2,λc m=>?_];rw[no<|ne c m]
   .show f3 c m
   .rintro(⟨i',xs,k1,k2⟩|z)
    .have ni:i'≠i:=λz=>by subst z;rw[h1]at k1;cases k1;show Y _ rfl
     show e.sep i' i _ u c b ni k1 rfl h1 o k2 q c (gA.mpr rfl) m
    .show sj c m<|cA _ z
  refine#[G',gg,gh,‹e.len›,λi d h=>?_,λi t h o=>?_,λi k t t' b b' ne h1 o1 h2 o2 q1 q2=>?_]
  .rcases at' h with⟨_,z⟩|⟨n,u,h1,z⟩
   .cases z
   .cases u with
    |v d'=>cases z;let(v,J,U):=e.val i _ h1;show#[v,J,Rep.mono gg _ _ U]
    |l xs=>
     cases z;let(b,J,(us,U,f3),_):=e.slot i _ h1 rfl;have n:b≠a:=λz=>by rw[z,w1]at U;cases U
     show#[.ref b,J,qD.mpr #[b,us,rfl,vF.of (by rw[O n<|.inl #[i,xs,h1,J]];show U),EA.mono gg _ _ f3]]
    |_=>cases z
  .rcases at' h with⟨rfl,rfl⟩|⟨n,u,h1,rfl⟩
   .refine#[a,qa,#[od,vs,ga,by rw[<- w2,UA];rfl,?_],λc m=>by cases m]
    have:=zv.frz gg w3 λb us m z=>by
     rw[O (λy=>by rw[y,w1]at z;cases z)<|.inr<|zm.mpr m];show z
    rw[UA]at this ⊢;show this
   .let(el,Y):=obj o;rw[el]at o ⊢;let(b,J,_):=e.slot i u h1 o;let(k1,k2,k3):=same n h1 o Y J;show#[b,J,k1,by rw[k2];show k3]
  .rcases at' h1 with⟨_,rfl⟩|⟨n,u,g1,rfl⟩
   .cases o1
   rcases at' h2 with⟨_,rfl⟩|⟨n',u',g2,rfl⟩
   .showλc _ m=>by cases m
   let(el,Y):=obj<|Sl.obj_of_own o1;let(el',nl'):=obj o2;rw[el]at o1 ⊢;rw[el']at o2 ⊢;rw[(same n g1 (Sl.obj_of_own o1) Y q1).2.1,(same n' g2 o2 nl' q2).2.1];show e.sep i k u u' b b' ne g1 o1 g2 o2 q1 q2
 .cases h
noncomputable def Ub:D->Bool
 |.tup _=>false
 |.lst _=>false
 |_=>true
def Fi:D->Bool
 |.tup ds=>ds.all Ub
 |d=>Ub d
def zKC{K:Fg}{G G':Hp}{d:D}{v:V}(h:Ub d=true)(r:Rep K G d v):Rep K G' d v:=by
 cases d<;>first|(cases h;done)|show r
theorem Qh{K:Fg}{G G':Hp}:∀{ds:L D}{us:L V},(∀d∈ds,∀v,Rep K G d v->Rep K G' d v)->EA K G ds us->EA K G' ds us
 | [],_,_,h=>h
 |_::_,_,f,h=>by
  let(w,us,rfl,a,b):=zL.mp h;show EA.cons (f _ (eA ..) _ a) (Qh (λx m=>f x<|cA _ m) b)
def zKD{K:Fg}{G G':Hp}(g:∀b us,G b>.tup us->G' b>.tup us){d:D}{v:V}(h:Fi d=true)(r:Rep K G d v):Rep K G' d v:=by
 cases d with
 |tup ds=>
  let(a,us,e,q,t):=qm.mp r
  show qm.mpr #[a,us,e,g _ _ q,Qh (λd m v=>zKC<|GB.mp h d m) t]
 |_=>show zKC h r
def zM.lend{G Y H O H2:Hp}{a:Addr}{od:Obj}{vs:L (L kC×V)}(s:zO G H)(g:zO G Y)(ha:H a>.dT vs)(t:zM Y (upd H a<|.frz od<|.dT vs) O H2):∃G',zM G H G' (upd H2 a<|.dT vs)/\(∀b us,O b>.tup us->G' b>.tup us)/\∀b,H b=none->G' b=O b:=by
 classical
 have nw:∀{c},Nw H c->c≠a:=λh z=>by rw[z]at h;unfold Nw at h;simp_all
 have J:∀{c},Nw H c->(if Nw H c then O c else G c)=O c:=λh=>if_pos h
 have no:∀{c},¬ Nw H c->(if Nw H c then O c else G c)=G c:=λh=>if_neg h
 have U:∀{c o},H c>o->upd H2 a _ c>o:=λ{c o} e=>by
  by_cases n:c=a
  .subst n;rw[HA,<- ha];show e
  .rw[zD n];show t.h _ _ (by rw[zD n];show e)
 refine#[λc=>if Nw H c then O c else G c,#[λc o e=>?_,λc o=>U,λc o e=>?_,λc o e n=>?_],λc us e=>?_,λc n=>J<|.inl n]
 .by_cases z:Nw H c
  .show(J z).trans (t.g _ _<|g _ _ e)
  .show(no z).trans e
 .by_cases z:Nw H c
  .rw[zD<|nw z];show t.s _ _<|(J z).symm.trans e
  .show U<|s _ _<|(no z).symm.trans e
 .grind
 .refine(J ?_).trans e
  cases q:H c with
  |none=>show .inl q
  |some o=>
   have k:=t.s _ _ e;have n:c≠a:=λz=>by subst z;rw[t.h _ _ HA]at k;cases k
   have:=t.h _ _ (by rw[zD n];show q);rw[k]at this;cases this;show .inr #[us,q]
section
variable {X:Cx}{e:Expr}{f:TB}{fl:FD}
def Fj(j:Nat)(f:TB):=(λρ=>(lend j ρ).bind λρ'=>(f ρ').bind λd=>if Fi d=true then some d else none:TB)
def h8(j:Nat)(f:FD):=(λρ=>(lend j ρ).bind λρ'=>(f ρ').bind λds=>if ds.all Fi=true then some ds else none:FD)
def zUZ(j:Nat)(h:SE X e f):SE X e (Fj j f):=lF (zRx h) λσ H Q=>by
 rintro⟨G,ρ,d,s,er,z,k⟩;let(ρ',e1,z):=aA.mp z;let(d',O,z):=aA.mp z;split at z
 .rename_i hf;cases z;let(a,vs,ha,U):=er.lend s e1;refine#[a,vs,ha,λod=>?_];let(G',gg,gh,Y):=U od;refine#[G',ρ',d,gh,Y,O,λv G2 H2 t r=>#[t.h _ _ HA,?_]];let(J,t3,k3,_):=t.lend s gg ha;show k v J _ t3<|zKD k3 hf r
 .cases z
def zUa(j:Nat)(h:SF X e fl):SF X e (h8 j fl):=lF (zRx h) λσ H Q=>by
 rintro⟨G,ρ,d,s,er,J,k⟩;let(ρ',e1,J):=aA.mp J;let(d',Y,J):=aA.mp J;split at J
 .rename_i hf;cases J;let(a,vs,ha,kk):=er.lend s e1;refine#[a,vs,ha,λod=>?_];let(G',gg,gh,uV):=kk od;refine#[G',ρ',d,gh,uV,Y,λb us G2 H2 t h1 h2 h3 r=>#[t.h _ _ HA,?_]];let(U,t3,k3,k4):=t.lend s gg ha;have O:b≠a:=λz=>by rw[z,HA]at h1;cases h1
  rw[zD O]at h1;show k b us U _ t3 h1 ((k4 b h1).trans h2) (by rw[zD O];show h3) (Qh (λd m v=>zKD k3<|GB.mp hf d m) r)
 .cases J
end
section
variable {prog:F6}{w:F9}{A:F8}{E:jD}{s:F2}{it d:Addr}{od:Obj}{es:Array cm}{ep i:Nat}
def zNj{Q:jD}(z:s.TypeIs (.ref d) "dict")(hz:(d==BC)=false)(J:s.heap.get? d>od)(hd:od.data=.dict es ep)
  (hQ:Q (.ref s.heap.objs.size) { s with heap:=s.heap.push { cls:=.type "dict_keyiterator",data:=.fields (List.toArray [.ref d,.int 0 0,.int es.size 0,.int ep 0]) } }):F5 (F4 prog w) A (dq<|.ref d) Q E s:=by
 refine VG z mX<|K1 mX z F.entry_dict_iter ?_<|F.args_dict_iter_1 _;refine Ee ?_;refine Ee<|aw z<|Ee<|F1<|F1<|Ee<|F1<|Ee ?_;unfold TJ;dsimp[hz];refine F1<|Ee<|N7 J hd<|Ee<|ai J hd<|Ee ?_;show K2<|F1 #[_,rfl,"dict_keyiterator",_,#[_,rA _ rfl,rfl],F.slot_dict_keyiterator_next.lookup,hQ]
def zNk{Q:Op F3->F2->Prop}(J:s.heap.IsKeyIter it d i es.size ep)(O:s.heap.get? d>od)(hd:od.data=.dict es ep){e:cm}(hx:es[i]?>e)
  (hQ:∀h',h'.IsKeyIter it d (i+1) es.size ep->EC it s.heap h'->Q (some e.key) { s with heap:=h' }):F5 (F4 prog w) A (az<|.ref it) Q E s:=by
 have z:=J.typeIs;let(oi,g1,g2,g3):=J;have no:nB "dict_keyiterator" = false:=02
 have base:∀{s':F2}{R:Nat->F2->Prop},s'.TypeIs (.ref it) "dict_keyiterator"->R 0 s'->∀{U:F8}{Y:jD},F5 (F4 prog w) U (do return if nB (<- cu (.ref it)) then 2 else 0) R Y s':=λt r=>Ee (dz t (by rw[no];show F1 r))
 have new:(s.heap.update it (tD (·.setIfInBounds 1 (aa<|(i:Int)+1)))).IsKeyIter it d (i+1) es.size ep:=
  #[_,aC _ g1<|xH<|YD g3 _,(PR ..).trans g2,by rw[YD g3];simp[aa]]
 unfold az;refine Ee<|bf<|wpAny_callSpecial?_slot (name:=iA "__next__") z cE<|K1 cE z pL ?_<|LK _;refine Ee<|F1<|Ee<|Ee<|base z<|Ee<|ar g1 g3 ?_;change F5 _ _ (if (mB d==pC)=true then _ else _) _ _ s;have nn:¬ ((mB d==pC)=true):=CB;rw[if_neg nn];refine Ee<|F1<|Ee<|N7 O hd ?_;rw[if_neg<|by simp];refine Ee<|F1<|Ee<|ai O hd ?_;rw[if_neg<|by simp];refine F1 ?_;have hi:¬ ((i:Int)<0):=01
 dsimp[hi,if_false,bD,hx];refine Ee<|base z<|Ee<|wpAny_isOneOf_keyiter z ?_;refine Ee (K9 g1 g3 (by simp)<|Ee<|K3 ?_);have nT:{ s with heap:=s.heap.update it _ }.TypeIs (.ref it) "dict_keyiterator":=new.typeIs;refine Ee<|wpAny_isOneOf_keyiter nT ?_;change F5 _ _ (pure e.key) _ _ _;show F1<|F1 #[_,rfl,F1<|hQ _ new<|lB ..]
def zQf{Q:Op F3->F2->Prop}(hh:A.handled=none)(z:s.heap.IsKeyIter it d i es.size ep)(O:s.heap.get? d>od)(hd:od.data=.dict es ep)(hx:es.size<=i)
  (hQ:∀h',CH it s.heap h'->Q none { s with heap:=h' }):F5 (F4 prog w) A (az<|.ref it) Q E s:=by
 have J:=z.typeIs;let(oi,g1,g2,g3):=z;have no:nB "dict_keyiterator" = false:=02
 have base:∀{s':F2}{R:Nat->F2->Prop},s'.TypeIs (.ref it) "dict_keyiterator"->R 0 s'->∀{U:F8}{Y:jD},F5 (F4 prog w) U (do return if nB (<- cu (.ref it)) then 2 else 0) R Y s':=λt r=>Ee (dz t (by rw[no];show F1 r))
 unfold az;refine Ee<|bf<|wpAny_callSpecial?_slot (name:=iA "__next__") J cE<|K1 cE J pL ?_<|LK _;refine Ee<|F1<|Ee<|Ee<|base J<|Ee<|ar g1 g3 ?_;change F5 _ _ (if (mB d==pC)=true then _ else _) _ _ s;have nn:¬ ((mB d==pC)=true):=CB;rw[if_neg nn];refine Ee<|F1<|Ee<|N7 O hd ?_;rw[if_neg<|by simp];refine Ee<|F1<|Ee<|ai O hd ?_;rw[if_neg<|by simp];refine F1 ?_;have hi:¬ ((i:Int)<0):=01
 dsimp[hi,if_false,bD,KM hx];refine Ee (base J<|Ee<|K9 g1 g3 (by simp)<|Ee ?_);dsimp[newExc,newTuple,uT];refine Ee (K2 (Ee (m:=VN _ _)<|cx (a:=pC) rfl<|K2 ?_<|by size_fits)<|by size_fits);refine Ee<|fy ?_;rw[show A.in1.handled=none from hh];refine Ee<|F1<|eh ?_;refine Ee<|bx (T:="StopIteration") (b:=true) #[_,rA _ rfl,rfl] WN<|F1<|hQ _ ?_;show((lB ..).extBut.push _).push _
end
def Ve(d:Addr)(od:Obj)(vs:L (L kC×V)):=(#[λi H=>H d>(.frz od<|.dT vs)/\i<vs.length,λi H x H'=>H'=H/\∃p b,vs[i]?>p/\x=.ref b/\H b>(.tup<|p.1.map kV),λi H=>H d>(.frz od<|.dT vs)/\vs.length<=i]:It)
theorem zNl{P:F6}{w:F9}{K:Fg}{tg:Expr}(d it:Addr){od:Obj}{vs:L (L kC×V)}{es:Array cm}{ep:Nat}(hd:od.data=.dict es ep):VS P w K tg (Ve d od vs) [it] it (λi h=>h.IsKeyIter it d i es.size ep) where
 mem:=gA.mpr rfl
 obj:=λi h st b hb=>by
  cases gA.mp hb;let(o,e,c,q):=st;show#[o,e,λv z=>by rw[q]at z;cases z]
 keep:=λi h h' st k=>by
  let(o,e,c,q):=st;show#[o,k it (gA.mpr rfl) o e,c,q]
 item:=by
  intro X hP hw hK hc i pins s σ H E I hf st hg;subst hP hw hK;let(hq,hi):=hg;let(Y,zz,hs,xs,J,o,BL,eR,e1,ex,O,e3,nd):=(I.hok d _ hq)
  rw[Y]at e1;cases e1;rw[hd]at O;cases O;let(f0,f1,f2,f3,f4,f5):=hf it<|gA.mpr rfl;have ll:=Paired.length J;obtain⟨q,xM⟩:∃q,xs[i]?>q:=#[xs[i]'01,by simp[show i<xs.length by omega]]
  obtain⟨p,hp⟩:∃p,vs[i]?>p:=#[vs[i],by simp[hi]]
  have rv:=Nv J i hp xM;have he:es[i]?>fq (ax<|zY X.prog X.w) q:=by rw[Uw e3,xM];rfl
  refine zNk st Y hd he λh' AC sb=>?_
  have I1:=I.turned (t':=s.toks) (λb o hb e=>(sb.2 b hb).trans e) f0 f1 f3 f4 f5;let(o,e,c,q0):=id AC;show#[_,rfl,U7 e c q0 02 #[.ref q.2.1,H,I1,rfl,#[rfl,p,q.2.1,hp,rfl,rv.2.1],AC,λb hb=>(hf b hb).1]]
 done:=by
  intro X hP hw hK hc i pins s σ H E I hf st hg;subst hP hw hK;let(hq,hi):=hg;let(Y,zz,hs,xs,J,o,BL,eR,e1,ex,O,e3,nd):=(I.hok d _ hq)
  rw[Y]at e1;cases e1;rw[hd]at O;cases O;let(f0,f1,f2,f3,f4,f5):=hf it<|gA.mpr rfl;have ll:=Paired.length J;show zQf (I.ok.hd hc) st Y hd (by rw[ez e3];omega) λh' eb=>#[rfl,I.turned (t':=s.toks) (λb o hb e=>eb b o hb e) f0 f1 f3 f4 f5]
 self:=λA i s Q E st h=>wpAny_pyIter_keyiter st h
noncomputable def MX:kC->D
 |.inl i=>.int i
 |.inr x=>.str x
theorem Nx{K:Fg}{G:Hp}:∀k:L kC,EA K G (k.map MX) (k.map kV)
 | []=>.nil
 |.inl _::k=>.cons (zV.mpr rfl)<|Nx k
 |.inr _::k=>.cons (qC.mpr rfl)<|Nx k
theorem zUb{K:Fg}{G:Hp}{b:Addr}{od:Obj}{vs:L (L kC×V)}(h:G b>(.frz od<|.dT vs)):bP K G (Ve b od vs) (vs.map λq=>.tup<|q.1.map MX) where
 go:=λi H s hi=>#[s _ _ h,by simp_all]
 stop:=λi H s hi=>#[s _ _ h,by simp_all]
 yld:=λi O H x H' s1 s hi y=>by
  let(rfl,p,c,e1,rfl,J):=y
  classical
  refine#[λa=>if a=c then H' c else O a,#[λa o e=>?_,zO.refl _,λa o e=>?_,λa o e n=>?_],λd e=>?_]
  .split
   .rename_i z;rw[<- z];show s _ _ e
   .show e
  .split at e
   .rename_i z;rw[z];show e
   .show s _ _ e
  .split at e
   .rename_i z;rw[z];show .inr #[_,J]
   grind
  .rw[MA,e1]at e;cases e;show qm.mpr #[c,_,rfl,(if_pos rfl).trans J,Nx _]
section
variable {X:Cx}{tg o ke:Expr}{pos:Pos}{fk:TB}
noncomputable def k6(ρ:XA)(i:Nat):Op (L<|L kC×D):=match ρ[i]? with
 |some (.z kvs)=>some kvs
 |_=>none
def E8{K:Fg}{G H:Hp}{ρ:XA}{σ:L2.St}{i:Nat}{kvs:L (L kC×D)}(e:Er K G H ρ σ)(h:k6 ρ i>kvs):∃a od ws,σ[i]?>(some<|.ref a)/\G a>(.frz od<|.dT ws)/\kvs.map (·.1)=ws.map (·.1)/\EA K G (kvs.map (·.2)) (ws.map (·.2)):=by
 unfold k6 at h;split at h
 .cases h;rename_i q;let(a,z,(od,ws,J),_):=e.slot i _ q rfl;show#[a,od,ws,z,J]
 .cases h
def iZ(i:Nat):=(λρ=>(k6 ρ i).map (·.map λq=>.tup<|q.1.map MX):FD)
def zUc(i:Nat)(Y:PE X o (qk i)):SI X tg o (iZ i):=by
 intro pins s σ H R I h;let(G,ρ,ds,sm,er,U,k):=h;let(kvs,e1,rfl):=bA.mp U;let(a,od,ws,q1,O,q3,_):=E8 er e1;refine iD (Y _ s σ H (λv H'=>v=.ref a/\H'=H) I #[_,q1,rfl,rfl]) λv s1 zz=>?_
 let(x,H1,I1,r1,e,e'):=zz;subst e;subst e';cases r1;have hq:=sm _ _ O;let(go,zz,hs,xs,rel,ob,es,ep,z,l5,J,l7):=(I1.hok a _ hq)
 rw[go]at z;cases z;refine zNj #[_,go,l5.1] hs go J ?_;refine#[s1.heap.objs.size,[s1.heap.objs.size],_,_,H1,rfl,I1.kept λb o e=>jA _ e,zNl (vs:=ws) a _ J,#[_,rA _ rfl,rfl,rfl],λb hb=>?_,k _ G H1 (zM.refl sm) ?_]
 .cases gA.mp hb;show I1.fpOk (wA _) I1.fresh
 .have:(kvs.map λq=>D.tup<|q.1.map MX)=ws.map λq=>D.tup<|q.1.map MX:=by
   have:=congrArg (xO λk=>D.tup<|k.map MX) q3;rw[UA,UA]at this;show this
  rw[this];show zUb O
def fX(i:Nat)(fk:TB):=(λρ=>(k6 ρ i).bind λkvs=>(fk ρ).bind λd=>(HM d).bind λk=>PF kvs k:TB)
def zUe(hu:X.A.units+1<K6)(i:Nat)(ho:PE X o (qk i))(hk:SE X ke fk)(hs:yo ke):SE X (.Subscript o ke pos) (fX i fk):=lF (EW hu ho hk hs) λσ H Q=>by
 rintro⟨G,ρ,d,s,er,J,k⟩;let(kvs,e1,J):=aA.mp J;let(dk,e2,J):=aA.mp J;let(key,e3,O):=aA.mp J;let(a,od,ws,q1,q2,q3,q4):=E8 er e1;refine#[_,q1,G,ρ,dk,s,er,e2,λv G' H' t r=>?_];let(kb,rfl,Y):=qE e3 r;rcases Cq q3 (EA.mono t.g _ _ q4) with⟨z,_⟩|⟨d',v',U,z2,z3⟩
 .rw[O]at z;cases z
 .rw[O]at U;cases U;show#[a,v',rfl,by rw[<- z2];show .inr #[ws,key,kb,.inr #[od,t.h _ _<|s _ _ q2],rfl,t.s _ _ Y,rfl],k _ G' H' t z3]
end
section
variable {K:Fg}{G0 H0 G H H':Hp}{ρ:XA}{σ:L2.St}{i:Nat}{c:Op Addr}{b:Addr}{kvs FG:L (L kC×L D)}{vs vs':L (L kC×V)}
def E7(h:H b>.dT vs):ED H (.o c<|.p<|.tl kvs) b=b::YG vs:=oY (kvs:=kvs) h
def Uc(e:Er K G H ρ σ)(h:ρ[i]?>(.o c<|.p<|.tl kvs)):∃a ws,σ[i]?>(some<|.ref a)/\ZL K .dT G H a kvs ws/\∀J,c>J->a=J:=by
 let(a,q1,(((ws,U,z2,z3),nd),Y),O):=e.slot i _ h rfl;have nd:(ED H (.o c<|.p<|.tl kvs) a).Nodup:=nd;rw[E7 U]at nd O;show#[a,ws,q1,#[U,z2,z3,nd,O],Y]
def uD.chT(s:uD K G0 H0 G H ρ σ)(hu:ρ[i]?>(.o c<|.p<|.tl kvs))(q1:σ[i]?>(some<|.ref b))(m:ZL K .dT G H b kvs vs)(cc:∀O,c>O->b=O)(t:∀p x,G' p>x->G p=none->Nw H p)(gg:zO G G')(h:ZL K .dT G' H' b FG vs')(c2:zO G' H')(U:∀p x,p∉b::YG vs->H p>x->H' p>x)(Y:∀q∈b::YG vs',q∈b::YG vs\/H q=none):uD K G0 H0 G' H' (ρ.set i<|.o c<|.p<|.tl FG) σ:=by
 let(J,z2,z3,z4,z5):=h;have nd:(ED H' (.o c<|.p<|.tl FG) b).Nodup:=by rw[E7 J];show z4
 show s.mutG hu rfl rfl q1 gg c2 (λq x e n=>.inl<|t q x e n) (by rw[E7 m.1];showλq x e n=>U q x n e) #[#[#[vs',J,z2,z3],nd],cc] (by rw[E7 m.1,E7 J];showλq h=>#[Y q h,z5 q h])
end
section
variable {X:Cx}{o a ke:Expr}{pos pos' p1 apos gB:Pos}{i:Nat}{fe fk:TB}{x:Str}
noncomputable def zRy(i:Nat):AB:=λρ=>some<|.nx<|ρ.set i<|.o none<|.p<|.tl []
def zQg(i:Nat)(O:X.N.Nodup)(hi:X.N[i]?>x)(hx:Loc X.env.scope x)(hs:cI X (.Dict [] [] p1) (some<|.Name x pos') pos)
  (hf:aM X x):SS X (.Assign [.Name x pos'] (.Dict [] [] p1) pos) (zRy i):=
 zf (GQ O hi hx zJs hs hf) λQ σ H=>by
  rintro⟨G0,H0,G,ρ,o,st,J,k⟩;cases J;intro p hp
  show k _ G _ (st.setNew (zM.newH st.bs.gh hp) rfl #[#[#[_,HA,rfl,rfl],by simp[VD,BE,HA,JX,YG]],λ_ z=>by cases z] λc m=>by
   have:=by simpa[ED,VD,BE,HA,JX,YG] using m
   subst this;show#[hp,st.bs.gh.free hp])
noncomputable def Ei(i:Nat)(fk:TB):AB:=λρ=>match ρ[i]? with
 |some (.o c<|.p<|.tl kvs)=>(fk ρ).bind λdk=>(HM dk).bind λk=>if (PF kvs k).isNone=true/\kvs.length<1000000 then some (.nx<|ρ.set i<|.o c<|.p<|.tl<|kvs++[(k,[])]) else none
 |_=>none
def zQh(hu:X.A.units+1<K6)(i:Nat)(ho:PE X o (qk i))(hk:SE X ke fk)(hs:cI X (.List [] lp) (some<|.Subscript o ke kE) pos):
  SS X (.Assign [.Subscript o ke kE] (.List [] lp) pos) (Ei i fk):=
 zf (Qm hu ho hk (Ed zZ) hs) λE σ H=>by
  rintro⟨G0,H0,G,ρ,o,st,J,k⟩;unfold Ei at J;split at J
  .rename_i c kvs hi;let(dk,e3,J):=aA.mp J;let(key,e4,J):=aA.mp J;split at J
   .rename_i hl;cases J;let(a,ws,q1,m,cc):=Uc st.er hi;refine#[LB _,λp hp=>?_];have t1:zM G H G (upd H p<|.lst []):=zM.newH st.bs.gh hp;refine#[_,q1,G,ρ,dk,t1.s,st.er.step t1,e3,λv2 O H2 t2 r2=>?_];have t:=t1.trans t2;have m2:=m.step t;let(kb,rfl,bJ):=qE e4 r2;let(hv,D0):=m2.gone (PK.mp hl.1) hl.2;have S0:H2 p>.lst []:=t2.h _ _ HA
    have gp:O p=none:=by
     cases q:O p with
     |none=>rfl
     |some o=>show(Ut.not #[_,(HA:upd H p (.lst []) p=_),nofun]<|t2.f p o q<|st.bs.gh.free hp).elim
    refine#[a,_,rfl,PP.t m2.1 (t2.s _ _ bJ) D0,?_];rw[Pa _ hv];let(m1,U,m3,m4,m5):=m2;have nd:=uB.mp m4
    have Y:p∉a::YG ws:=λh=>by
     rcases oA.mp h with z|h
     .rw[z,m.1]at hp;cases hp
     .let(o,e):=m.2.2.1.there _<|zm.mp h;rw[hp]at e;cases e
    have hr:a::YG (ws++[(key,.ref p)])=(a::YG ws)++[p]:=by rw[wn];rfl
    refine k σ O _ (st.chT (vs':=ws++[(key,.ref p)]) hi q1 m cc t.f t.g #[HA,by simp[U],?_,?_,?_] (λq x e=>?_) (λq x n e=>?_) ?_)
    .rw[uA,uA];show zv.snoc (by rw[zD<|λz=>Y (by rw[z];show eA ..)];show S0) EA.nil (m3.same (zO.refl _) λq m o z=>by rw[zD<|λzz=>nd.1 (by rw[<- zz];show zm.mpr m)];show z)
    .rw[hr];show rB.mpr #[m4,by simp,λx hx y hy z=>by cases gA.mp hy;subst z;show Y hx]
    .rw[hr];showλq h=>(pA.mp h).elim (m5 q) λh=>by cases gA.mp h;show gp
    .rw[zD (λz=>by rw[z,m5 a<|eA ..]at e;cases e)];show t.s _ _ e
    .rw[zD<|λz=>n (by rw[z];show eA ..)];show t.h _ _ e
    .rw[hr];showλq h=>(pA.mp h).imp id λh=>by cases gA.mp h;show hp
   .cases J
  .cases J
noncomputable def J7(i:Nat)(fk fe:TB):AB:=λρ=>match ρ[i]? with
 |some (.o c<|.p<|.tl kvs)=>(fk ρ).bind λdk=>(HM dk).bind λk=>(PF kvs k).bind λxs=>(fe ρ).bind λd=>if xs.length<1000000 then some (.nx<|ρ.set i<|.o c<|.p<|.tl<|nI k (xs++[d]) kvs) else none
 |_=>none
def zQi(i:Nat)(hu:X.A.units+1<K6)(ho:PE X o (qk i))(hk:SE X ke fk)(ha:SE X a fe)(U0:yo ke)(Y:HJ X (.Subscript o ke kp) "append")(GF:aP X gB [a])(CD:FN apos gB)(hs:wF X a [])(wD:aG X gB [])(VH:cI X (.Call (.Attribute (.Subscript o ke kp) "append" apos) [a] [] gB) none pos):
  SS X (.Expr (.Call (.Attribute (.Subscript o ke kp) "append" apos) [a] [] gB) pos) (J7 i fk fe):=
 zf (qz (UO pB KC LC AW (EW hu ho hk U0) (zP ha zZ hs) Y GF CD hs wD) VH) λE σ H=>by
  rintro⟨G0,H0,G,ρ,o,st,z,k⟩;unfold J7 at z;split at z
  .rename_i c kvs hi;let(dk,e3,z):=aA.mp z;let(key,e4,z):=aA.mp z;let(xs,g0,z):=aA.mp z;let(d,e7,z):=aA.mp z;split at z
   .rename_i hl;cases z;let(b,vs,q1,m,cc):=Uc st.er hi;refine#[_,q1,G,ρ,dk,st.bs.gh,st.er,e3,λv1 G1 H1 t1 r1=>?_];let(kb,rfl,bJ):=qE e4 r1;have m:=m.step t1;rcases zv.get m.2.1 m.2.2.1 with⟨g1,_⟩|⟨PJ,b',us,g1,g2,g3,O,_⟩<;>rw[g0]at g1<;>cases g1;refine#[b,.ref b',rfl,by rw[<- g2];show QH.t m.1<|t1.s _ _ bJ,.inl #[rfl,us,vF.of g3],G1,ρ,d,t1.s,st.er.step t1,e7,λv G3 H3 t3 r3=>#[b',us,v,rfl,rfl,t3.h _ _ g3,BA (by rw[<- O.length];show hl)<|02,?_]];have m3:=m.step t3;let(k1,k2,k3,k4):=m3.put t3.s g2<|(EA.mono t3.g _ _ O).append<|EA.cons r3 EA.nil;show k σ G3 _ (((st.step t1).step t3).chT hi q1 m3 cc (λp x e n=>by rw[n]at e;cases e) (zO.refl _) k1 k2 k3 k4)
   .cases z
  .cases z
noncomputable def M7(i:Nat)(fk:TB):AB:=λρ=>match ρ[i]? with
 |some (.o c<|.p<|.tl kvs)=>(fk ρ).bind λdk=>(HM dk).bind λk=>match PF kvs k with
  |some (_::xs)=>some<|.nx<|ρ.set i<|.o c<|.p<|.tl<|nI k xs kvs
  |_=>none
 |_=>none
def zQj(i:Nat)(hu:X.A.units+1<K6)(ho:PE X o (qk i))(hk:SE X ke fk)(U0:yo ke)(O:HJ X (.Subscript o ke kp) "pop")(GF:aP X gB [iI (.int 0) j' ipos])(Y:FN apos gB)(hs:F7 [iI (.int 0) j' ipos] X.env=(false,eval (.Constant (.int 0) j' ipos) X.env)::F7 [] X.env)(wD:aG X gB [])(VH:cI X (.Call (.Attribute (.Subscript o ke kp) "pop" apos) [.Constant (.int 0) j' ipos] [] gB) none pos):
  SS X (.Expr (.Call (.Attribute (.Subscript o ke kp) "pop" apos) [.Constant (.int 0) j' ipos] [] gB) pos) (M7 i fk):=
 zf (qz (UO pB MG NG zJp (EW hu ho hk U0) (zP Rm zZ hs) O GF Y hs wD) VH) λE σ H=>by
  rintro⟨G0,H0,G,ρ,o,st,z,k⟩;unfold M7 at z;split at z
  .rename_i c kvs hi;let(dk,e3,z):=aA.mp z;let(key,e4,z):=aA.mp z;split at z
   .rename_i d xs g0;cases z;let(b,vs,q1,m,cc):=Uc st.er hi;refine#[_,q1,G,ρ,dk,st.bs.gh,st.er,e3,λv1 G1 H1 t1 r1=>?_];let(kb,rfl,bJ):=qE e4 r1;have m:=m.step t1;rcases zv.get m.2.1 m.2.2.1 with⟨g1,_⟩|⟨PJ,b',us,g1,g2,g3,g4,_⟩<;>rw[g0]at g1<;>cases g1;let(J,Mc,rfl,r0,rs):=zL.mp g4;let(k1,k2,k3,k4):=m.put t1.s g2 rs;show#[b,.ref b',rfl,by rw[<- g2];show QH.t m.1<|t1.s _ _ bJ,.inl #[rfl,_,vF.of g3],b',J::Mc,0,0,J,rfl,rfl,g3,02,02,by simp[YL],rfl,k σ G1 _<|(st.step t1).chT hi q1 m cc (λp x e n=>by rw[n]at e;cases e) (zO.refl _) k1 k2 k3 k4]
   .cases z
  .cases z
end
noncomputable def OS:L D->Op (L Str)
 | []=>some []
 |.int i::r=>if 0<=i/\i<1000000 then (OS r).map (((toString i:String):Str) :: ·) else none
 |.str x::r=>if (cj x).length<=1000 then (OS r).map (cj x :: ·) else none
 |_=>none
def u9(b:Str):D->Op D
 |.tup ds=>(OS ds).bind λts=>if (oF++tupleText ts++b).length<=1000000 then some (.str<|oF++tupleText ts++b) else none
 |_=>none
theorem Pm{P:F6}{w:F9}{K:Fg}{G:Hp}:∀{ds:L D}{vs:L V}{us:L F3}{ts:L Str},OS ds>ts->EA K G ds vs->zl vs us->ReprAll P w us ts
 | [],_,_,_,h,r,v=>by cases h;cases zc.mp r;cases v;show .nil
 |d::ds,_,_,_,h,r,v=>by
  let(O,vs,rfl,r0,rs):=zL.mp r
  cases v with
  |cons z J=>
   cases d with
   |int i=>
    dsimp[OS]at h;split at h
    .rename_i hc;let(ts,e,rfl):=bA.mp h;cases zV.mp r0;let(t,rfl):=z;show .cons (ReprIs.int t<|wj hc.1 hc.2)<|Pm e rs J
    .cases h
   |str x=>
    dsimp[OS]at h;split at h
    .rename_i hc;let(ts,e,rfl):=bA.mp h;cases qC.mp r0;let(t,rfl):=z;show .cons (ReprIs.str x t<|JA hc<|02)<|Pm e rs J
    .cases h
   |_=>cases h
section
variable {X:Cx}{e:Expr}{f:TB}{pos p2 p3:Pos}{k:Nat}{j3}
def zQk(hr:qB k X.A)(ha:SE X e f):SE X (.JoinedStr [.FormattedValue e 114 none p2,.Constant (.str b) j3 p3] pos) (b1 f<|u9 b):=by
 intro pins s σ H Q I h;let(G,ρ,d,sm,er,z,k):=h;let(d1,e1,z):=aA.mp z
 cases d1 with
 |tup ds=>
  let(ts,O,z):=aA.mp z;split at z
  .rename_i h2;cases z;rw[app_len,app_len]at h2;refine Uq (bh<|wpAny_FormattedValue_repr<|iD (ha _ _ σ H (λv H'=>∃G',zM G H G' H'/\Rep _ G' _ v) I #[G,ρ,_,sm,er,e1,λv G' H' t r=>#[G',t,r]]) λv s2 zz=>?_);let(x,H1,I1,U,G',t1,r1):=zz;let(a,vs,rfl,q,r):=uU r1;cases U;let(its,Y,(o,J,hc,n,hd),hz):=I1.tuple<|yp t1.s q;refine wpAny_pyReprObj_tuple #[o,J,hc] hr.gd (λ_ m=>by cases m) hr.units0 J hd (Pm O r<|by simpa using Y) (λu tk=>?_) (by rw[K7];omega);refine formatField_str (λt' NO=>#[by rw[app_len,K7];omega,?_]) (by rw[K7];omega);refine bh (UF #[by rw[app_len,app_len,K7];omega,joinParts_nil ?_ (by rw[app_len,app_len,K7];omega)]);show#[.str _,H1,((I1.tok _).tok _).tok _,#[_,rfl],k _ G' H1 t1<|qC.mpr rfl]
  .cases z
 |_=>cases z
end
def mW(K:Fg)(κ:Nat->Addr)(g:Ob->L D->Op Nat)(n:Nat):=(λvs H _ E=>∃G x a ds ws c,vs=.ref a::ws/\zO G H/\At K G H x a/\EA K G ds ws/\ds.length+1=n/\g x ds>c/\∀G' H',zM G H G' H'->E (.ref<|κ c) none H':Sp)
noncomputable def zXj(N:L Str)(F:XA->Op TF)(a:Addr)(x:Ob)(ds:L D):Op Nat:=(F<|(.b a x::ds.map Sl.v)++nA (N.length-(ds.length+1)) .un).bind λo=>match o with
 |.ex c=>some c
 |_=>none
def zUg{P:F6}{w:F9}{K:Fg}{mg:AF}{base:Heap}{κ:Nat->Addr}{x qual:Str}{st:Stmt}{fa:Addr}{fd:K5}{N ps:L Str}{k:Nat}{F:XA->Op TF}{g:Ob->L D->Op Nat}
  (Y:XJ K x qual st fa fd) (S:yA N ps (zH st))
  (SD:∀(J:F3)(A:F8)(outer:L Env)(s:F2)(H:Hp)(E:XK),qB k (A.deeper<|N9 qual (zH st) s.heap.objs.size fa J)->fQ (UE P w K mg base N qual (zH st) fa J A outer s H E) κ E (yI st) F)
  (hf:∀a y ds c,ds.length+1=ps.length->g y ds>c->zXj N F a y ds>c):PH P w K mg base (EJ P w) (k+1) fa fd ps (mW K κ g ps.length):=by
 let(oc,od,kV,doc,pm,an,J,ct,dO,rfl,lk,FL):=Y.ex;refine V7 lk FL S (λvs H Q E h=>?_) λA outer s H vs Q E hr h=>?_
 .let(G,y,a,ds,ws,c,rfl,_,_,r,hn,_):=h;rw[sA,<- r.length,hn]
 .let(G,y,a,ds,ws,c,rfl,sm,O,r,hn,ef,kk):=h;refine#[_,SD _ A _ s H E hr,?_];let(o,e1,U):=aA.mp<|hf a y ds c hn ef;have PM:Er K G H (.b a y::ds.map _) _:=i7 rfl #[#[O.rep,O.nd],rfl] O.fr r;have er:=PM.app (N.length-(ds.length+1)) (nA (N.length-(ds.length+1)) none) (by simp);rw[show L2.dM N _=(V.ref a::ws).map _++nA _ _ by rw[sU,sA,<- r.length]];refine#[G,H,G,_,o,#[er,#[sm,zO.refl _,zO.refl _,λb o e n=>by rw[e]at n;cases n],λi u b h1 h2 h3=>?_],e1,?_]
  .exfalso;rcases pA.mp (xA h1) with m|m
   .rcases oA.mp m with z|m
    .subst z;cases h2
    .let(d',_,rfl):=QA.mp m;cases h2
   .rw[(NC.mp m).2]at h2;cases h2
  .cases o with
   |o x=>cases U
   |ex c=>
    cases U
    showλG' H' b=>kk G' H' #[b.gg,b.hh,b.gh,b.fr]
abbrev Ud(P w K mg base κ C k m n g):=Mt P w K mg base (EJ P w) C k m<|mW K κ g n
section
variable {X:Cx}{κ:Nat->Addr}{o e:Expr}{es:L Expr}{pos apos:Pos}{C:Addr}{m:Str}{i k n:Nat}{g:Ob->L D->Op Nat}{fl:FD}
def zUi(h:Ud X.prog X.w X.K X.mg X.base κ C k m n g)(c:TH X.K C)(hr:qB k X.A)(ho:PE X.nox o (qk i))(hn:(e::es).length+1=n)(ha:SA X.nox (e::es) fl)(U:X.ex=[])(I:Inv X pins σ H s){Q Xe:jD}(sm:zO G H)(er:Er X.K G H ρ σ)(e0:eM ρ i>x)(hx:fK C m x=true)(e1:fl ρ>ds)(e2:g x ds>cc)(EV:∀G' H' s' y T,zM G H G' H'->Inv X pins σ H' s'->eV X.stack y T (.ref<|κ cc) s'.heap->MP X pins H' y->MP X pins H' T->Xe (.ref y) s')(wI:wF X e es)(eE:aG X pos es) (ht:eval (.Call (.Attribute o m apos) (e::es) [] pos) X.env=(do
   let ov <- eval o X.env
   T9 apos.atName
   let (f,first) <- K8 [ov] (T7 ov m pl)
   au pos f first (N4 pos<|F7 (e::es) X.env) (T5 pos<|N0 [] X.env))) :
  F5 (F4 X.prog X.w) X.A (eval (.Call (.Attribute o m apos) (e::es) [] pos) X.env) Q Xe s:=by
 let(fa,fd,ps,Y,hm,hb):=h.ex;let(a,q1,A):=pU er e0;let(dx,ws,q2,q3):=eY A hx;refine VE (K0 (ho _ s σ H (λv H'=>v=.ref a/\H'=H) (I.wish _) #[_,q1,rfl,rfl]) (λu s1 q9=>?_) λ_ _ z=>False.elim z) ht;let(x',H1,I1,rx,ex,eH):=q9;rw[eH]at I1;rw[ex]at rx;obtain rfl:u=mB a:=rx;have I1:=I1.unwish;refine Bn I1 q2 c hm q3 ?_;have hA:=ha.pa pos _ s1 σ H (λvs H1=>∃O,zM G H O H1/\EA X.K O ds vs) (I1.wish _) #[G,ρ,ds,sm,er,e1,λvs O H1 t1 r1=>#[O,t1,r1]];refine JF I.ok.mod.kin hm.kp (K0 hA (λus s2 ⟨vs,H2,I2,rv,O,t1,r1⟩=>#[I2.unwish.kIn,?_]) λ_ _ z=>False.elim z) wI eE;have I2:=I2.unwish;have sp:∀(Q:VK)(E:XK),(∀G' H',zM G H G' H'->E _ _ H')->mW _ κ g n _ H2 Q E:=λQ E kk=>#[O,x,a,ds,vs,cc,rfl,t1.s,A.step t1,r1,by rw[ha.len _ _ e1];show hn,e2,λG' H' t=>kk G' H'<|t1.trans t]
 have hl:(mB a::us).length=ps.length:=by
  have:=Y.len _ H2 (λ_ _=>True) (λ_ _ _=>True) (sp _ _ λ_ _ _=>trivial);rw[<- this,sA,sA,rv.length]
 refine XN (T4 (Y.run _ _ s2 H2 _ _ (.ref a::vs) (λ_ _=>False) (λu _ H'=>∃G',u=.ref _/\zM G H G' H') hr I2.env0 (by simpa using hb s2 _ I2.kIn ‹hl›) (.cons rfl rv)<|sp _ _ λG' H' t=>#[G',rfl,t]) λrr s' hq=>?_)
 cases rr with
 |error u=>
  let(y,T,C,H',rfl,os,bare,un,dJ,iQ,ny,nT,hy,hT,G',eC,t):=hq;cases eC;have J:=I2.call' os un dJ bare λb m=>absurd m (by simp)
  show EV G' H' s' y T t J iQ (Ff I2 U ny hy)<|Ff I2 U nT hT
 |ok fw=>
  cases fw with
  |ret u=>let(v,H',J,Xi,z):=I2.after hq;show z.elim
  |next=>show False.elim hq
  |brk=>show False.elim hq
  |cont=>show False.elim hq
end
section
variable {X:Cx}{κ:Nat->Addr}{C R D:Addr}{o e:Expr}{es:L Expr}{fl:XA->Op (L RD.D)}{m xC xD xR yn en:Str}{i j ie k n:Nat}{g:Ob->L RD.D->Op Nat}
 {pos gB apos jN np AK q1 q2 q3 q4 q5 q6 p1 p2 p3 r1 r2 r3 u1 bp a1 a3:Pos}
noncomputable abbrev zRz(en xC xD yn:Str)(q1 q2 q3 q4 q5 q6 p1 p2 p3 r1 r2 r3 u1 bp a1 a3:Pos):Stmt:=
 .Assign [.Name yn a1] (.BoolOp .And [.Call (.Name "isinstance" p1) [.Name en q1,.Name xC q2] [] r1,.UnaryOp .Not (.Call (.Name "isinstance" p2) [.Name en q3,.Name xD q4] [] r2) u1,.Call (.Name "isinstance" p3) [.Name en q5,.Name "ValueError" q6] [] r3] bp) a3
def zUj{oe:Obj}(x:X3 X.K C R D)(hc:oe.cls=.ref C)(hN:X.N.Nodup)(nR:X.N[ie]?>en)(U:X.env.scope.names.lookup en>.local)(hj:X.N[j]?>yn)(L9:X.env.scope.names.lookup yn>.local)(O:Gl X "isinstance")(Y:X.mg "isinstance" = none)(gv:Gl X "ValueError")(mv:X.mg "ValueError" = none)(gC:Gl X xC)(mC:X.mg xC>.ref C)(gD:Gl X xD)(mD:X.mg xD>.ref D)(de:XH en)(dC:XH xC)(dD:XH xD)(ce:(en==("__classdict__" : Str))=false):
  oK (oQ X y oe).nox [zRz en xC xD yn q1 q2 q3 q4 q5 q6 p1 p2 p3 r1 r2 r3 u1 bp a1 a3] (λz σ H=>σ[ie]?>(some<|.ref y)/\z.nx (σ.set j<|some<|.bl true) H):=by
 have cl:=zQY (X:=X.nox) (y:=y) x hc;have v:∀q,PE (oQ X y oe).nox (.Name en q)<|qk ie:=λq=>zRb nR (.inl U) de ce
 have c1:PE (oQ X y oe).nox (.Call (.Name "isinstance" p1) [.Name en q1,.Name xC q2] [] r1) _:=FS cl O Y Av<|zP (v q1)<|zP (zL7 (v:=.ref C) gC mC rfl dC) zZ;have c2:PE (oQ X y oe).nox (.Call (.Name "isinstance" p2) [.Name en q3,.Name xD q4] [] r2) _:=FS cl O Y Av<|zP (v q3)<|zP (zL7 (v:=.ref D) gD mD rfl dD) zZ;have c3:PE (oQ X y oe).nox (.Call (.Name "isinstance" p3) [.Name en q5,.Name "ValueError" q6] [] r3) _:=FS cl O Y Av<|zP (v q5)<|zP (zL8 (v:=.ty "ValueError") gv mv Gu rfl) zZ;have all:=Qj (X:=(oQ X y oe).nox)<|GQ (pos:=a3) (pos':=a1) hN hj (.inl L9) (Ro (pos:=bp) c1<|Ro (pos:=bp) (zRf (pos:=u1) c2)<|zRe (pos:=bp) c3) rfl<|.inr L9;intro pins s σ H z I h;refine all pins s σ H z I ?_;let(J,h):=h;refine#[_,J,.inl #[rfl,true,rfl,?_]];dsimp[if_true];refine#[_,J,.inr<|.inl #[rfl,false,rfl,true,rfl,?_]];dsimp[if_true];show#[_,J,.inr<|.inr #[rfl,h]]
noncomputable def Ej(A:Addr)(m:Str)(i j ie cc:Nat)(fl:XA->Op (L RD.D))(g:Ob->L RD.D->Op Nat):AB:=λρ=>match ρ[ie]? with
 |some .un=>(eM ρ i).bind λx=>if fK A m x=true then (fl ρ).bind λds=>(g x ds).bind λc=>if c=cc then some (.nx<|ρ.set j<|.v<|.bl true) else none else none
 |_=>none
def zQl(i j ie Y:Nat)(h:Ud X.prog X.w X.K X.mg X.base κ A k m n g)(c:TH X.K A)(hr:qB k X.A)(ho:PE X.nox o (qk i))(hn:(e::es).length+1=n)(ha:SA X.nox (e::es) fl)(hex:X.ex=[])(x3:X3 X.K (κ Y) R D)(gR:Gl X xR)(mR:X.mg xR>.ref R)(wI:X.stack=X.env::X.outer)(lR:X.env.frame>X.env.locals)(hN:X.N.Nodup)(hj:X.N[j]?>yn)(L9:X.env.scope.names.lookup yn>.local)(nR:X.N[ie]?>en)(U:X.env.scope.names.lookup en>.local)(OV:j≠ie)(gi:Gl X "isinstance")(mi:X.mg "isinstance" = none)(gv:Gl X "ValueError")(mv:X.mg "ValueError" = none)(gC:Gl X xC)(mC:X.mg xC>(.ref<|κ Y))(gD:Gl X xD)(mD:X.mg xD>.ref D)(hs:cI X (.Call (.Attribute o m apos) (e::es) [] gB) none jN)(dR:XH xR)(de:XH en)(dC:XH xC)(dD:XH xD)(ce:(en==("__classdict__" : Str))=false)(hsE:wF X e es)(eE:aG X gB es) (ht:eval (.Call (.Attribute o m apos) (e::es) [] gB) X.env=(do
   let ov <- eval o X.env
   T9 apos.atName
   let (f,first) <- K8 [ov] (T7 ov m pl)
   au gB f first (N4 gB<|F7 (e::es) X.env) (T5 gB<|N0 [] X.env))) :
  SS X (.Try [.Expr (.Call (.Attribute o m apos) (e::es) [] gB) jN] [.ExceptHandler (some<|.Name xR np) (some en) [zRz en xC xD yn q1 q2 q3 q4 q5 q6 p1 p2 p3 r1 r2 r3 u1 bp a1 a3] AK] [] [] pos) (Ej A m i j ie Y fl g):=by
 intro pins s σ H Ds I h;let(G0,H0,G,ρ,out,st,O,k):=h;unfold Ej at O;split at O
 .rename_i hun;let(x,e0,O):=aA.mp O;split at O
  .rename_i hx;let(ds,e1,O):=aA.mp O;let(c',e2,e3):=aA.mp O;split at e3
   .rename_i BX;subst BX;cases e3;refine Z8 (bz<|wpAny_Expr_any (zUi h c hr ho hn ha hex I st.bs.gh st.er e0 hx e1 e2 (λG' H' s' y T t J iQ ny nT=>?_) hsE eE ht) I.quiet hs);refine zQZ x3 gR mR wI lR J iQ ny nT hN nR U (λoe hc=>zUj x3 hc hN nR U hj L9 gi mi gv mv gC mC gD mD de dC dD ce) #[?_,?_] dR
    .show cB (by rw[J.len];show(vA.mp nR).1)
    .have AC:=((st.step t).setV (i:=j) (d:=.bl true)<|zb.mpr rfl).setUn (ie:=ie) (by rw[LA OV];show hun) none;have:((σ.set ie<|some<|V.ref y).set j<|some<|V.bl true).set ie none=(σ.set j<|some<|V.bl true).set ie none:=by rw[List.set_comm _ _<|λz=>OV z.symm,ZM]
     change Ds.nx _ H';rw[this];show k _ G' H' AC
   .cases e3
  .cases O
 .cases O
end
section
variable {X:Cx}{o e a:Expr}{es:L Expr}{pos apos cp ip p2:Pos}{C:Addr}{m:Str}{i k n j:Nat}{F:Ob->L D->Op Ob}{fl:FD}{f:TB}{A B:L Stmt}{FA FB:AB}
def zUk(i:Nat)(h:VR X.prog X.w X.K X.mg X.base C k m n F)(c:TH X.K C)(hr:qB k X.A)(ho:PE X o (qk i))(ha:SA X (e::es) fl)(hn:(e::es).length+1=n)(hA:pK X A FA)(hB:pK X B FB)(wI:wF X e es)(eE:aG X pos es) (ht:eval (.Call (.Attribute o m apos) (e::es) [] pos) X.env=(do
   let ov <- eval o X.env
   T9 apos.atName
   let (f,first) <- K8 [ov] (T7 ov m pl)
   au pos f first (N4 pos<|F7 (e::es) X.env) (T5 pos<|N0 [] X.env))) :
  SS X (.If (.Compare (.Call (.Attribute o m apos) (e::es) [] pos) [.IsNot] [.Constant .none j p2] cp) A B ip) (sq (WO C m i fl F) FB):=by
 let(f,fd,ps,U,hm,hb):=h.ex;refine zf (Tf (Rn<|zSX<|Dm ho c hm U hr hb .nil FR ha.pa wI eE ht) hA hB) λE σ H zz=>?_
 let(G0,H0,G,ρ,out,st,ef,kk):=zz;let(o1,e0,e4):=aA.mp ef;unfold WO at e0;split at e0
 .rename_i c' x J;split at e0
  .rename_i hx;let(ds,z,e0):=aA.mp e0;let(O,e3,rfl):=bA.mp e0;let(a,q1,r1,r2):=st.er.slot i _ J rfl;have A:At _ G H x a:=#[r1.1.1,r1.1.2,r2]
   let(dx,ws,q2,q3):=eY A hx;refine#[_,q1,a,dx,ws,rfl,q2,q3,G,ρ,ds,st.bs.gh,st.er,z,λvs Y H1 t r=>?_];change Aa _ F n _ H1 _ E0;rw[WA];refine#[Y,x,a,ds,vs,O,rfl,t.s,A.step t,r,by rw[ha.len _ _ z];show hn,e3,λG2 H2 ch=>#[false,rfl,?_]];show#[G0,H0,G2,_,out,(st.step t).mutG J rfl (w:=.o c' O) rfl q1 ch.g ch.gh ch.fr ch.h #[#[ch.at_.rep,ch.at_.nd],r1.2] λp mm=>#[ch.new p mm,ch.at_.fr p mm],e4,kk]
  .cases e0
 .cases e0
noncomputable def Fk(i:Nat)(fi f:TB):AB:=λρ=>(f ρ).bind λd=>match ρ[i]? with
 |some (.o c<|.p<|.l xs)=>(fi ρ).bind λdi=>match di with
  |.int n=>(WG xs.length n).map λj=>.nx<|ρ.set i<|.o c<|.p<|.l<|xs.set j d
  |_=>none
 |_=>none
def zUl{fi:TB}(i:Nat)(ho:PE X o (qk i))(hi:SE X ie fi)(ha:SE X a f) (hg:∀v,bj (.Subscript o ie kE) X.env v=(do
   let ov <- K8 [v] (eval o X.env)
   let iv <- K8 [v,ov] (eval ie X.env)
   T9 kE
   K8 [v,ov,iv] (fg ov iv v)
   VY [v,ov,iv] [])) (hs:lH [.Subscript o ie kE] a pos.line X.env=pure false) (hw:kH [.Subscript o ie kE] a X.env=pure none) (h1:(N3 [.Subscript o ie kE] X.env).map (·.2)=[bj (.Subscript o ie kE) X.env]):SS X (.Assign [.Subscript o ie kE] a pos) (Fk i fi f):=
 zf (Eb ha (Rp ho hi Oy hg) hs hw h1) λE σ H=>by
  rintro⟨G0,H0,G,ρ,o,st,J,k⟩;let(d,e1,J):=aA.mp J;split at J
  .rename_i c xs q;let(di,e3,J):=aA.mp J
   cases di with
   |int n=>
    let(j,e4,rfl):=bA.mp J;refine#[G,ρ,d,st.bs.gh,st.er,e1,λv Y H1 t1 r1=>?_];let(a1,q1,_):=st.er.slot i _ q rfl;refine#[_,q1,Y,ρ,_,t1.s,st.er.step t1,e3,λv2 G2 H2 t2 r2=>?_];have AC:=(st.step t1).step t2;let(a2,w1,(((vs,w3,U),_),w5),w6):=AC.er.slot i _ q rfl;rw[q1]at w1;cases w1;have O:=w6 a1 (by simp[ED,VD,BE]);refine#[a1,vs,n,j,rfl,zV.mp r2,w3,by rw[<- U.length];show e4,k σ G2 _<|AC.mutG q rfl rfl q1 (zO.refl _) (λb o e=>?_) (λb o e n=>by rw[e]at n;cases n) (λb o e n=>?_) #[#[#[_,HA,U.set j<|Rep.mono t2.g _ _ r1],by simp[VD,BE]],w5] λc m=>?_]
    .rw[zD λz=>by rw[z,O]at e;cases e];show AC.bs.gh _ _ e
    .rw[zD λz=>n (by rw[z];simp[ED,VD,BE])];show e
    .have:=by simpa[ED,VD,BE] using m
     subst this
     show#[.inl (by simp[ED,VD,BE]),O]
   |_=>cases J
  .cases J
end
noncomputable def HU:Sl->Op Sl->Op Sl
 |.v d,_=>some<|.v d
 |.o (some a) _,some (.o (some b) y)=>if b=a then some (.o (some a) y) else none
 |_,_=>none
noncomputable def NW:L Sl->XA->Op (L Sl)
 | [],_=>some []
 |s::ss,ρ=>(HU s ρ.head?).bind λx=>(NW ss ρ.tail).map (x :: ·)
theorem zKG:∀{ra:L Sl}{ρ:XA}{z:L Sl},NW ra ρ>z->z.length=ra.length/\∀(i:Nat) s',z[i]?>s'->∃s,ra[i]?>s/\HU s ρ[i]?>s'
 | [],ρ,z,h=>by cases h;show#[rfl,λi s' e=>by simp at e]
 |s::ss,ρ,z,h=>by
  let(x,e1,h):=aA.mp h;let(rs,J,rfl):=bA.mp h;let(l,q):=zKG J;refine#[by simp[l],λi s' e=>?_]
  cases i with
  |zero=>cases e;show#[s,rfl,by rw[<- e1];cases ρ<;>rfl]
  |succ i=>
   simp_all
def zUm(h:HU s o>.v d):s=.v d:=by
 unfold HU at h;split at h
 .cases h;rfl
 .simp_all
 .cases h
def zUn{t:Sl}(h:HU s o>t)(ob:t.isObj=true):∃a x y,s=.o (some a) x/\o>.o (some a) y/\t=.o (some a) y:=by
 unfold HU at h;split at h
 .cases h;cases ob
 .split at h
  .rename_i a x b y e;cases h;subst e;show#[_,_,_,rfl,rfl,rfl]
  .cases h
 .cases h
inductive Ag where
 |v (d:D)|t (x:Ob)
noncomputable def mI(as:Nat->Addr):Nat->L Ag->L Sl
 |_,[]=>[]
 |p,.v d::r=>.v d::mI as (p+1) r
 |p,.t x::r=>.o (some<|as p) x::mI as (p+1) r
theorem Z6{as:Nat->Addr}:∀{p:Nat}{xs:L Ag},(mI as p xs).length=xs.length
 |_,[]=>rfl
 |p,.v d::r=>by simp[mI,Z6]
 |p,.t x::r=>by simp[mI,Z6]
theorem Qi{as:Nat->Addr}:∀{p:Nat}{xs ys:L Ag},mI as p xs=mI as p ys->xs=ys
 |_,[],[],_=>rfl
 |_,[],.v _::_,h=>by cases h
 |_,[],.t _::_,h=>by cases h
 |_,.v _::_,[],h=>by cases h
 |_,.t _::_,[],h=>by cases h
 |_,.v _::_,.t _::_,h=>by injection h with h _;cases h
 |_,.t _::_,.v _::_,h=>by injection h with h _;cases h
 |_,.v d::r,.v e::q,h=>by injection h with h1 h2;cases h1;rw[Qi h2]
 |_,.t d::r,.t e::q,h=>by injection h with h1 h2;cases h1;rw[Qi h2]
def Z9(K:Fg)(g:L Ag->Op (D×L Ag))(n:Nat):=(λvs H Q _=>∃G xs as ra r,ra=mI as 0 xs/\ra.length=n/\zO G H/\Er K G H ra (vs.map some)/\(∃r',g xs>r'/\r=(r'.1,mI as 0 r'.2))/\∀v G' H',uD K G (zn H ra<|vs.map some) G' H' r.2 (vs.map some)->Rep K G' r.1 v->Q v H':Sp)
noncomputable def B8(N:L Str)(F:AB)(ra:L Sl):Op (D×L Sl):=(F<|ra++nA (N.length-ra.length) .un).bind λo=>match o with
 |.rm d ρ=>(NW ra ρ).map λt=>(d,t)
 |.nx ρ=>(NW ra ρ).map λt=>(.non,t)
 |_=>none
def zLe{ra:L Sl}{σ:L2.St}(hl:ra.length=σ.length):zn H (ra++nA m .un) (σ++nA m' none)=zn H ra σ:=by
 funext b
 unfold zn
 have:(∃(i:Nat)(s:Sl)(a:Addr),(ra++nA m .un)[i]?>s/\s.isOwn=true/\(σ++nA m' none)[i]?>(some<|.ref a)/\b∈ED H s a)↔∃(i:Nat)(s:Sl)(a:Addr),ra[i]?>s/\s.isOwn=true/\σ[i]?>(some<|.ref a)/\b∈ED H s a:=by
  constructor
  .rintro⟨i,s,a,h1,h2,h3,J⟩;by_cases hi:i<ra.length
   .rw[NA hi]at h1;rw[NA<|01]at h3;show#[i,s,a,h1,h2,h3,J]
   .rw[eB<|01,DB]at h1;split at h1<;>cases h1;cases h2
  .rintro⟨i,s,a,h1,h2,h3,J⟩;have hi:=(vA.mp h1).1;show#[i,s,a,by rw[NA hi];show h1,h2,by rw[NA<|01];show h3,J]
 by_cases z:∃(i:Nat)(s:Sl)(a:Addr),ra[i]?>s/\s.isOwn=true/\σ[i]?>(some<|.ref a)/\b∈ED H s a
 .rw[if_pos<|this.mpr z,if_pos z]
 .rw[if_neg λy=>z<|this.mp y,if_neg z]
def uD.args{K:Fg}{G H G' H':Hp}{ra Y:L Sl}{ρ:XA}{σ ZC:L2.St}(e0:Er K G H ra σ)(st:uD K G (zn H ra σ) G' H' ρ ZC)(h:NW ra ρ>Y):uD K G (zn H ra σ) G' H' Y σ:=by
 let(l,q):=zKG h
 have ob:∀{i:Nat}{t:Sl},Y[i]?>t->t.isObj=true->∃a y,t=.o (some a) y/\ρ[i]?>t/\σ[i]?>(some<|.ref a)/\ZC[i]?>(some<|.ref a):=λ{i t} e o=>by
  let(s,e1,z):=q i t e;let(a,x,y,rfl,e3,rfl):=zUn z o;let(a1,J,O,_):=e0.slot i _ e1 rfl;let(a2,g1,g2,_):=st.er.slot i _ e3 rfl;have:=O.2 a rfl;subst this;have:=g2.2 a1 rfl;subst this;show#[_,_,rfl,e3,J,g1]
 refine#[#[l.trans e0.len,λi d e=>?_,λi t e o=>?_,λi j t u a b ne e1 o1 z o2 q1 q2=>?_],st.bs,λi t a e o q1=>?_]
 .let(s,e1,z):=q i _ e;rw[zUm z]at e1;let(v,J,O):=e0.val i d e1;show#[v,J,Rep.mono st.bs.gg _ _ O]
 .let(a,y,rfl,e1,z,e3):=ob e o;let(a1,g1,g2,g3):=st.er.slot i _ e1 rfl;rw[e3]at g1;cases g1;show#[a,z,g2,g3]
 .let(a1,_,_,J,O,U):=ob e1<|Sl.obj_of_own o1;let(b1,_,_,g1,g2,g3):=ob z o2;rw[O]at q1;cases q1;rw[g2]at q2;cases q2;show st.er.sep i j t u a b ne J o1 g1 o2 U g3
 .let(a1,_,_,J,O,U):=ob e<|Sl.obj_of_own o;rw[O]at q1;cases q1;show st.ows i t a J o U
def zR0{P:F6}{w:F9}{K:Fg}{mg:AF}{base:Heap}{x qual:Str}{st:Stmt}{fa:Addr}{fd:K5}{N ps:L Str}{k:Nat}{F:AB}{g:L Ag->Op (D×L Ag)}
  (FF:XJ K x qual st fa fd) (S:yA N ps (zH st))
  (SD:∀(O:F3)(A:F8)(outer:L Env)(s:F2)(H:Hp),qB k (A.deeper<|N9 qual (zH st) s.heap.objs.size fa O)->pK (sO SH P w K mg base N qual (zH st) fa O A outer s H E0).nox (yI st) F)
  (hf:∀as xs r,g xs>r->B8 N F (mI as 0 xs)>(r.1,mI as 0 r.2)):PH P w K mg base SH (k+1) fa fd ps (Z9 K g ps.length):=by
 refine FF.ok S (λvs H Q E h=>?_) (λO A outer s H vs Q E hr h=>?_)
 .let(G,xs,as,ra,r,_,hn,_,er,_):=h;have:=er.len;rw[lA]at this;omega
 .let(G,xs,as,ra,(d0,gO),ea,hn,sm,J,(r',ef,uV),Y):=h;have h1:=SD _ A outer s H hr;refine#[_,h1,?_];have m9:=hf as xs _ ef;rw[<- ea,<- uV]at m9;let(o,e1,z):=aA.mp m9;have hl:=J.len;have er:=J.app (N.length-ra.length) (nA (N.length-ra.length) none) (by simp);have es:L2.dM N vs=vs.map some++nA (N.length-ra.length) none:=by rw[sU];rw[lA]at hl;rw[hl]
  rw[es];refine#[G,zn H _ _,G,_,o,er.toSt sm,e1,?_];rw[zLe hl]
  cases o with
  |nx ρ=>
   let(y2,e3,U):=bA.mp z;cases U
   showλZC G' H' AC=>Y _ G' H' (uD.args J AC e3)<|FP.mpr rfl
  |rm d ρ=>
   let(y2,e3,U):=bA.mp z;cases U
   showλv ZC G' H' AC r'=>Y v G' H' (uD.args J AC e3) r'
  |rt d=>cases z
  |bk ρ=>cases z
  |ct ρ=>cases z
  |ro ρ=>cases z
structure aZ(K:Fg)(G H:Hp)(u:Sl)(x:Ob)(a:Addr):Prop where
 own:u.isOwn=true
 fp:ED H u a=VD H x a
 rep:KN K G H x a/\(VD H x a).Nodup->gK K G H u a
def uD.called{K:Fg}{G0 H0 G H G' H':Hp}{ρ ρ':XA}{σ va:L2.St}{ra gO:L Sl}{J:Nat->Nat->Prop}(s:uD K G0 H0 G H ρ σ)(e0:Er K G H ra va)(t:uD K G (zn H ra va) G' H' gO va)
  (hJ:∀{p j:Nat},J p j->∃a x y u w,ra[p]?>.o (some a) x/\gO[p]?>.o (some a) y/\ρ[j]?>u/\aZ K G H u x a/\σ[j]?>(some<|.ref a)/\ρ'[j]?>w/\aZ K G' H' w y a)
  (hT:∀{p:Nat}{s:Sl},ra[p]?>s->s.isOwn=true->∃j,J p j) (hF:∀{p j k:Nat},J p j->J p k->j=k)
  (hl:ρ'.length=ρ.length) (hk:∀j,(∃p,J p j)\/ρ'[j]?=ρ[j]?):uD K G0 H0 G' H' ρ' σ:=by
 let I:=λj a u w=>∃p x y,J p j/\ra[p]?>.o (some a) x/\gO[p]?>.o (some a) y/\ρ[j]?>u/\aZ K G H u x a/\σ[j]?>(some<|.ref a)/\ρ'[j]?>w/\aZ K G' H' w y a
 have mkI:∀{p j:Nat},J p j->∃a u w,I j a u w:=λ{p j} h=>by
  let(a,x,y,u,w,q):=hJ h;show#[a,u,w,p,x,y,h,q]
 have EQ:∀{p:Nat}{a:Addr}{x:Ob},ra[p]?>.o (some a) x->va[p]?>_:=λ{p a x} h=>by
  let(a1,f1,f2,_):=e0.slot p _ h rfl;rw[<- f2.2 a rfl];show f1
 have own:∀{i:Nat}{s1:Sl}{a1 b:Addr},ra[i]?>s1->s1.isOwn=true->va[i]?>(some<|.ref a1)->b∈ED H s1 a1->∃j a u w,I j a u w/\b∈ED H u a:=λ{i s1 a1 b} h1 h2 h3 h4=>by
  let(j,hj):=hT h1 h2;let(a,x,y,u,w,q1,O,q3,U,q5):=hJ hj;rw[h1]at q1;cases q1;rw[EQ h1]at h3;cases h3;show#[j,_,u,w,#[i,x,y,hj,h1,O,q3,U,q5],by rw[U.fp];show h4]
 have no:∀{b:Addr},zn H ra va b=none->H b=none\/∃j a u w,I j a u w/\b∈ED H u a:=λ{b} h=>by
  unfold zn at h;split at h
  .rename_i z;let(i,s1,a1,h1,h2,h3,h4):=z;show .inr<|own h1 h2 h3 h4
  .show .inl h
 refine s.mutN (I:=I) (λ{j a u w} ⟨p,x,y,_,_,_,q3,U,q5,q6,Y⟩=>#[q3,U.own,Y.own,q5,q6]) hl (λj=>?_) t.bs.gg t.bs.gh (λb o e n=>(t.bs.fr b o e n).elim (λz=>(no z).imp .inl id) λ⟨vs,z⟩=>.inl<|.inr #[vs,Na _ _ z]) (λb o e n=>t.bs.hh b o ?_) (λ{j a u w} ⟨p,x,y,hj,q1,O,q3,U,q5,q6,Y⟩=>?_) (λ{j k a u w a' u' w'} ne ⟨p,x,y,hj,q1,O,q3,U,q5,q6,Y⟩ ⟨p',x',y',hj',r1,r2,r3,r4,r5,r6,r7⟩ c m=>?_)
 .by_cases z:∃p,J p j
  .let(p,hp):=z;show .inl<|mkI hp
  .show .inr #[λa u w ⟨p,_,_,hp,_⟩=>z #[p,hp],(hk j).resolve_left z]
 .unfold zn;rw[if_neg]
  .show e
  .rintro⟨i,s1,a1,h1,h2,h3,h4⟩;let(j,a,u,w,hi,m):=own h1 h2 h3 h4;show n j a u w hi m
 .let(a1,f1,f2,f3):=t.er.slot p _ O rfl;have:=f2.2 _ rfl;subst this;refine#[Y.rep f2.1,λc m=>?_];rw[Y.fp]at m;refine#[(no<|t.ows p _ _ O rfl f1 c m).symm,f3 c m]
 .rw[Y.fp]at m;rw[r7.fp];have np:p≠p':=λe=>ne (by subst e;show hF hj hj')
  show t.er.sep p p' _ _ _ _ np O rfl r2 rfl (EQ q1) (EQ r1) c m
noncomputable def HY(N:L Str)(F:AB)(xs:L Ag):Op (D×L Ag):=by
 classical show if h:∃r:D×L Ag,∀as,B8 N F (mI as 0 xs)>(r.1,mI as 0 r.2) then some h.choose else none
def zKH{F:AB}(as:Nat->Addr)(xs:L Ag)(r:D×L Ag)(h:HY N F xs>r):B8 N F (mI as 0 xs)>(r.1,mI as 0 r.2):=by
 unfold HY at h;split at h
 .rename_i e;cases h;show e.choose_spec as
 .cases h
def zNm{F:AB}{r:D×L Ag}(h:∀as,B8 N F (mI as 0 xs)>(r.1,mI as 0 r.2)):HY N F xs>r:=by
 have e:∃r:D×L Ag,∀as,B8 N F (mI as 0 xs)>(r.1,mI as 0 r.2):=#[r,h]
 unfold HY;rw[dif_pos e];have q:=e.choose_spec λ_=>0
 rw[h]at q;injection q with q;injection q with q1 q2;have z:=Qi q2;generalize e.choose=c at q1 z
 grind
abbrev TR(P w K mg base k x n g):=Df P w K mg base SH k x<|Z9 K g n
noncomputable def IT:Sl->Op Ob
 |.l xs=>some<|.p<|.l xs
 |.m kvs=>some<|.p<|.m kvs
 |.o _ x=>some x
 |_=>none
def c7{u:Sl}{x:Ob}(h:IT u>x):u.isOwn=true:=by cases u<;>first|rfl|cases h
def Ek{u:Sl}{x:Ob}{H:Hp}{a:Addr}(h:IT u>x):ED H u a=VD H x a:=by
 cases u<;>cases h<;>simp[ED,VD,BE]
def zUo{K:Fg}{G H:Hp}{u:Sl}{x:Ob}{a:Addr}(h:IT u>x)(r:gK K G H u a):KN K G H x a/\(VD H x a).Nodup:=by
 cases u with
 |l xs=>cases h;show#[r,by simp[VD,BE]]
 |m kvs=>cases h;show#[r,by simp[VD,BE]]
 |o c y=>cases h;show r.1
 |_=>cases h
inductive FM(K:Fg)(G:Hp)(ρ:XA)(σ:L2.St)(cv:Sl->Option Ag):List (Option Nat)->List Ag->List V->Prop
 |nil:FM K G ρ σ cv [] [] []
 |val {d:D} {v:V} {qs xs vs}:Rep K G d v->FM K G ρ σ cv qs xs vs->FM K G ρ σ cv (none::qs) (.v d::xs) (v::vs)
 |thg {i:Nat} {u:Sl} {x:Ag} {a:Addr} {qs xs vs}:ρ[i]?>u->cv u>x->σ[i]?>(some<|.ref a)->FM K G ρ σ cv qs xs vs->FM K G ρ σ cv (some i::qs) (x::xs) (.ref a::vs)
def DO(u:Sl):=((IT u).map .t:Op Ag)
def Sh{u:Sl}{x:Ag}(h:DO u>x):∃y,x=.t y/\IT u>y:=let ⟨y,e,z⟩:=bA.mp h;#[y,z.symm,e]
def zR1{vs:L V}{p:Nat}{a:Addr}(h:vs[p]?>.ref a):sP vs (0+p)=a:=by rw[lJ];unfold sP;rw[h]
section
variable {K:Fg}{G H:Hp}{ρ:XA}{σ:L2.St}{cv:Sl->Op Ag}{qs:L (Op Nat)}{xs:L Ag}{vs:L V}
def FM.len(r:FM K G ρ σ cv qs xs vs):qs.length=xs.length/\xs.length=vs.length:=by
 induction r with
 |nil=>show#[rfl,rfl]
 |val _ _ ih=>simp[ih]
 |thg _ _ _ _ ih=>simp[ih]
theorem FM.at(r:FM K G ρ σ cv qs xs vs):∀{p:Nat},p<xs.length->∃q x v,qs[p]?>q/\xs[p]?>x/\vs[p]?>v/\match q with
  |none=>∃d,x=.v d/\Rep K G d v
  |some i=>∃u a,ρ[i]?>u/\cv u>x/\σ[i]?>(some<|.ref a)/\v=.ref a:=by
 induction r with
 |nil=>intro p h;simp at h
 |val h0 _ ih=>
  intro p h
  cases p with
  |zero=>show#[none,_,_,rfl,rfl,rfl,_,rfl,h0]
  |succ p=>show ih ‹h›
 |@thg i u x a _ _ _ h1 h2 h3 _ ih=>
  intro p h
  cases p with
  |zero=>show#[some i,_,_,rfl,rfl,rfl,u,a,h1,h2,h3,rfl]
  |succ p=>show ih ‹h›
def FM.x(r:FM K G ρ σ cv qs xs vs){p:Nat}{x:Ag}(h:xs[p]?>x):∃v,vs[p]?>v/\((∃d,x=.v d/\Rep K G d v)\/∃i u a,qs[p]?>some i/\ρ[i]?>u/\cv u>x/\σ[i]?>(some<|.ref a)/\v=.ref a):=by
 let(q,y,v,h1,h2,h3,z):=r.at (vA.mp h).1;rw[h]at h2;cases h2;refine#[v,h3,?_]
 cases q with
 |none=>show .inl z
 |some i=>let(u,a,k):=z;show .inr #[i,u,a,h1,k]
theorem Q7{as:Nat->Addr}:∀{xs:L Ag}{p i:Nat}{s:Sl},(mI as p xs)[i]?>s->(∃d,xs[i]?>.v d/\s=.v d)\/∃x,xs[i]?>.t x/\s=.o (some<|as<|p+i) x
 | [],p,i,s,h=>by simp[mI]at h
 |.v d::xs,p,0,s,h=>by cases h;show .inl #[d,rfl,rfl]
 |.t x::xs,p,0,s,h=>by cases h;show .inr #[x,rfl,rfl]
 |.v d::xs,p,i+1,s,h=>by have:=Q7 (i:=i) h;rw[show p+(i+1)=p+1+i by omega];show this
 |.t x::xs,p,i+1,s,h=>by have:=Q7 (i:=i) h;rw[show p+(i+1)=p+1+i by omega];show this
def FM.er(r:FM K G ρ σ DO qs xs vs)(e:Er K G H ρ σ)(hq:∀{p q j:Nat},qs[p]?>some j->qs[q]?>some j->p=q):Er K G H (mI (sP vs) 0 xs) (vs.map some):=by
 have ob:∀{i:Nat}{s:Sl},(mI (sP vs) 0 xs)[i]?>s->s.isObj=true->∃j u x a,qs[i]?>some j/\ρ[j]?>u/\IT u>x/\σ[j]?>(some<|.ref a)/\(vs.map some)[i]?>(some<|.ref a)/\s=.o (some a) x:=λ{i s} h o=>by
  rcases Q7 h with⟨d,_,rfl⟩|⟨x,h1,rfl⟩
  .cases o
  .obtain⟨v,U,⟨d,z,_⟩|⟨j,u,a,q1,O,J,q4,rfl⟩⟩:=r.x h1
   .cases z
   .let(y,z,J):=Sh J;cases z;show#[j,u,x,a,q1,O,J,q4,by rw[MA,U];rfl,by rw[zR1 U]]
 refine#[by rw[Z6,lA];show r.len.2,λi d h=>?_,λi s h o=>?_,λi j s t a b ne h1 o1 h2 o2 q1 O=>?_]
 .rcases Q7 h with⟨d',h1,z⟩|⟨x,_,z⟩
  .cases z;obtain⟨v,e1,⟨d',z,e2⟩|⟨j,u,a,_,_,J,_⟩⟩:=r.x h1
   .cases z;show#[v,by rw[MA,e1];rfl,e2]
   .let(y,z,_):=Sh J;cases z
  .cases z
 .let(j,u,x,a,q1,O,J,q4,U,rfl):=ob h o;let(a',f1,f2,f3):=e.slot j u O<|Sl.obj_of_own<|c7 J;rw[q4]at f1;cases f1;show#[a,U,#[zUo J f2,λc z=>by cases z;rfl],λc m=>f3 c (by rw[Ek J];show m)]
 .let(j1,u1,x1,a1,Y,q2',Xf,Ki,q5',rfl):=ob h1<|Sl.obj_of_own o1;let(j2,u2,x2,a2,r1',r2',Xg,r4',r5',rfl):=ob h2 o2;rw[q5']at q1;cases q1;rw[r5']at O;cases O;intro c m z;have nj:j1≠j2:=λe=>ne (by subst e;show hq Y r1')
  show e.sep j1 j2 u1 u2 a b nj q2' (c7 Xf) r2' (Sl.obj_of_own<|c7 Xg) Ki r4' c (by rw[Ek Xf];show m) (by rw[Ek Xg];show z)
def FM.q(r:FM K G ρ σ DO qs xs vs){p j:Nat}(h:qs[p]?>some j):∃u x a,xs[p]?>.t x/\ρ[j]?>u/\IT u>x/\σ[j]?>(some<|.ref a)/\vs[p]?>.ref a:=by
 let(q,x,v,h1,h2,h3,J):=r.at (by rw[<- r.len.1];show(vA.mp h).1);rw[h]at h1;cases h1;let(u,a,k1,k2,k3,rfl):=J;let(y,z,O):=Sh k2;subst z;show#[u,y,a,h2,k1,O,k3,h3]
end
noncomputable def toS:Sl->Ob->Op Sl
 |.l _,.p (.l ys)=>some<|.l ys
 |.m _,.p (.m ys)=>some<|.m ys
 |.o c _,y=>some<|.o c y
 |_,_=>none
noncomputable def IY:L (Op Nat)->L Ag->XA->Op XA
 |none::qs,.v _::xs,ρ=>IY qs xs ρ
 |some i::qs,.t y::xs,ρ=>(IY qs xs ρ).bind λρ'=>(ρ[i]?).bind λu=>(toS u y).map λw=>ρ'.set i w
 | [],[],ρ=>some ρ
 |_,_,_=>none
theorem Qo{ρ:XA}:∀{qs:L (Op Nat)}{ys:L Ag}{ρ':XA},IY qs ys ρ>ρ'->(∀{p q j:Nat},qs[p]?>some j->qs[q]?>some j->p=q) ->
  ρ'.length=ρ.length/\(∀j:Nat,(∃p:Nat,qs[p]?>some j)\/ρ'[j]?=ρ[j]?)/\∀p j:Nat,qs[p]?>some j->∃u y w,ys[p]?>.t y/\ρ[j]?>u/\toS u y>w/\ρ'[j]?>w
 | [],[],ρ',h,_=>by cases h;show#[rfl,λj=>.inr rfl,λp j h=>by simp at h]
 | [],.v _::_,ρ',h,_=>by cases h
 | [],.t _::_,ρ',h,_=>by cases h
 |none::qs,[],ρ',h,_=>by cases h
 |some _::qs,[],ρ',h,_=>by cases h
 |none::qs,.t _::_,ρ',h,_=>by cases h
 |some _::qs,.v _::_,ρ',h,_=>by cases h
 |none::qs,.v d::ys,ρ',h,hq=>by
  let(l,k,a):=Qo (ys:=ys) h λ{p q j} h1 h2=>by have:=hq (p:=p+1) (q:=q+1) h1 h2;omega
  refine#[l,λj=>(k j).imp (λ⟨p,e⟩=>#[p+1,e]) id,λp j e=>?_]
  cases p with
  |zero=>cases e
  |succ p=>show a p j e
 |some i::qs,.t y::ys,ρ',h,hq=>by
  let(RE,e1,h):=aA.mp h;let(u,O,h):=aA.mp h;let(w,e3,rfl):=bA.mp h;let(l,k,a):=Qo e1 λ{p q j} h1 h2=>by have:=hq (p:=p+1) (q:=q+1) h1 h2;omega
  have hi:=(vA.mp O).1;refine#[by simp[l],λj=>?_,λp j e=>?_]
  .by_cases J:j=i
   .show .inl #[0,by rw[J];rfl]
   .rcases k j with⟨p,z⟩|z
    .show .inl #[p+1,z]
    .show .inr (by rw[LA<|Ne.symm J];show z)
  .cases p with
   |zero=>cases e;show#[u,y,w,rfl,O,e3,by rw[cB<|01]]
   |succ p=>
    let(u',y',U,Y,z2,z3,z4):=a p j e;have J:i≠j:=λz=>by subst z;have:=hq (p:=0) rfl e;omega
    show#[u',y',U,Y,z2,z3,by rw[LA J];show z4]
theorem Dt{as:Nat->Addr}:∀{xs:L Ag}{p i:Nat}{x:Ob},xs[i]?>.t x->(mI as p xs)[i]?>.o (some<|as<|p+i) x
 | [],p,i,x,h=>by simp at h
 |.v d::xs,p,0,x,h=>by cases h
 |.t y::xs,p,0,x,h=>by cases h;rfl
 |.v d::xs,p,i+1,x,h=>by have:=Dt (as:=as) (p:=p+1) (i:=i) h;rw[show p+(i+1)=p+1+i by omega];show this
 |.t y::xs,p,i+1,x,h=>by have:=Dt (as:=as) (p:=p+1) (i:=i) h;rw[show p+(i+1)=p+1+i by omega];show this
def zUp{K:Fg}{G H G' H':Hp}{u w:Sl}{y:Ob}{a:Addr}(h:toS u y>w)(r:gK K G H u a):aZ K G' H' w y a:=by
 unfold toS at h;split at h
 .cases h;show#[rfl,rfl,λq=>q.1]
 .cases h;show#[rfl,rfl,λq=>q.1]
 .cases h;show#[rfl,rfl,λq=>#[q,r.2]]
 .cases h
def uD.ret{K:Fg}{G0 H0 G H G' H':Hp}{ρ ρ':XA}{σ:L2.St}{qs:L (Op Nat)}{xs ys:L Ag}{vs:L V}(s:uD K G0 H0 G H ρ σ)(r:FM K G ρ σ DO qs xs vs)(hq:∀{p q j:Nat},qs[p]?>some j->qs[q]?>some j->p=q)
  (t:uD K G (zn H (mI (sP vs) 0 xs)<|vs.map some) G' H' (mI (sP vs) 0 ys) (vs.map some)) (hs:IY qs ys ρ>ρ'):uD K G0 H0 G' H' ρ' σ:=by
 let(l,k,a):=Qo hs hq;refine s.called (r.er s.er hq) t (λ{p j} h=>?_) (λ{p s1} h o=>?_) (λ{p j k} h1 h2=>by rw[h1]at h2;cases h2;rfl) l k
 .let(u,x,b,q1,J,O,q4,q5):=r.q h;let(u',y,w,z1,z2,z3,z4):=a p j h;rw[J]at z2;cases z2;have U:=zR1 q5;let(b',Y,f2,_):=s.er.slot j u J<|Sl.obj_of_own<|c7 O;rw[q4]at Y;cases Y;refine#[b,x,y,u,w,by rw[Dt q1,U],by rw[Dt z1,U],J,#[c7 O,Ek O,λ_=>f2],q4,z4,zUp z3 f2]
 .rcases Q7 h with⟨d,_,rfl⟩|⟨x,h1,rfl⟩
  .cases o
  .obtain⟨v,_,⟨d,z,_⟩|⟨j,_,_,q1,_⟩⟩:=r.x h1
   .cases z
   .show#[j,q1]
def tAF(K:Fg)(cv:Sl->Op Ag)(qs:L (Op Nat))(fl:XA->Op (L Ag)):=(λσ H Q=>∃G ρ xs,zO G H/\Er K G H ρ σ/\fl ρ>xs/\∀vs G' H',zM G H G' H'->FM K G' ρ σ cv qs xs vs->Q vs H':TA)
noncomputable def cV(f:TB)(fl:XA->Op (L Ag)):XA->Op (L Ag):=λρ=>(f ρ).bind λd=>(fl ρ).map λxs=>.v d::xs
noncomputable def cT(cv:Sl->Op Ag)(i:Nat)(fl:XA->Op (L Ag)):XA->Op (L Ag):=λρ=>((ρ[i]?).bind cv).bind λx=>(fl ρ).map λxs=>x::xs
structure jV(X:Cx)(cv:Sl->Option Ag)(es:List Expr)(qs:List (Option Nat))(fl:XA->Option (List Ag)):Prop where
 ob:∀u x,cv u>x->u.isObj=true
 pa:PA X es (tAF X.K cv qs fl)
 len:∀ρ xs,fl ρ>xs->xs.length=es.length
section
variable {X:Cx}{o e:Expr}{es:L Expr}{i:Nat}{f:TB}{fl:XA->Op (L Ag)}{qs:L (Op Nat)}{cv:Sl->Op Ag}
theorem zUq(ob:∀u x,cv u>x->u.isObj=true):jV X cv [] [] zE where
 ob:=ob
 pa:=GR zZ λσ H Q=>by
  rintro⟨G,ρ,xs,s,er,z,k⟩;cases z;show k [] G H (zM.refl s) .nil
 len:=λρ xs h=>by simp_all
theorem Z3(ha:SE X e f)(hr:jV X cv es qs fl)(hs:wF X e es):jV X cv (e::es) (none::qs) (cV f fl) where
 ob:=hr.ob
 pa:=GR (zP ha hr.pa hs) λσ H Q=>by
  rintro⟨G,ρ,xs,s,er,J,k⟩;let(d,e1,J):=aA.mp J;let(O,z,rfl):=bA.mp J;show#[G,ρ,d,s,er,e1,λv U H1 t1 r1=>#[U,ρ,O,t1.s,er.step t1,z,λvs G' H' t r=>k _ G' H' (t1.trans t)<|.val (Rep.mono t.g _ _ r1) r]]
 len:=λρ xs h=>by
  let(d,e1,h):=aA.mp h;let(O,z,rfl):=bA.mp h;simp[hr.len _ _ z]
theorem Y3(i:Nat)(ho:PE X o (qk i))(hr:jV X cv es qs fl)(hs:wF X o es):jV X cv (o::es) (some i::qs) (cT cv i fl) where
 ob:=hr.ob
 pa:=GR (zP ho hr.pa hs) λσ H Q=>by
  rintro⟨G,ρ,xs,s,er,J,k⟩;let(x,e1,J):=aA.mp J;let(u,e0,e1):=aA.mp e1;let(O,z,rfl):=bA.mp J;let(a,U,f2,f3):=er.slot i u e0<|hr.ob _ _ e1;show#[_,U,G,ρ,O,s,er,z,λvs G' H' t r=>k _ G' H' t<|.thg e0 e1 U r]
 len:=λρ xs h=>by
  let(d,e1,h):=aA.mp h;let(O,z,rfl):=bA.mp h;simp[hr.len _ _ z]
end
def Fm(j:Nat)(qs:L (Op Nat))(fl:XA->Op (L Ag))(g:L Ag->Op (D×L Ag)):=(λρ=>(fl ρ).bind λxs=>(g xs).bind λr=>(IY qs r.2 ρ).map λρ'=>.nx<|ρ'.set j<|.v r.1:AB)
section
variable {X:Cx}{e:Expr}{es:L Expr}{pos p pos' gB:Pos}{k n:Nat}{x y:Str}{fl:XA->Op (L Ag)}{qs:L (Op Nat)}{g:L Ag->Op (D×L Ag)}
def zUr(j:Nat)(h:TR X.prog X.w X.K X.mg X.base k x n g)(hr:qB k X.A)(hg:X.env.kindOf x>.globalImplicit)(hn:(e::es).length=n)(ha:jV X DO (e::es) qs fl)(hq:∀{p q j:Nat},qs[p]?>some j->qs[q]?>some j->p=q)(hN:X.N.Nodup)(hj:X.N[j]?>y)(hy:Loc X.env.scope y)
  (hs:cI X (.Call (.Name x p) (e::es) [] gB) (some<|.Name y pos') pos)
  (hf:aM X y) (J:XH x)
  (he:wF X e es) (eE:aG X gB es) :
  SS X (.Assign [.Name y pos'] (.Call (.Name x p) (e::es) [] gB) pos) (Fm j qs fl g):=by
 let(f,fd,ps,O,hm,hk,hb):=h.ex;refine zf (GQ hN hj hy (DW O hr hg hm hk hb .nil FR ha.pa J he eE) hs hf) λE σ H zz=>?_
 let(G0,H0,G,ρ,out,st,z,kk):=zz;let(xs,e1,z):=aA.mp z;let(r0,e2,z):=aA.mp z;let(ρ',e3,rfl):=bA.mp z;refine#[G,ρ,xs,st.bs.gh,st.er,e1,λvs U H1 t r=>?_];change Z9 _ g n _ H1 _ E0;rw[WA];have AC:=st.step t;refine#[U,xs,sP vs,_,_,rfl,by rw[Z6,ha.len _ _ e1];show hn,t.s,r.er AC.er hq,#[r0,e2,rfl],λv Y H2 tt rv=>?_];show kk _ Y H2<|(AC.ret r hq tt e3).setV rv
def zR2(qs:L (Op Nat))(fl:XA->Op (L Ag))(g:L Ag->Op (D×L Ag)):=(λρ=>(fl ρ).bind λxs=>(g xs).bind λr=>(IY qs r.2 ρ).map .nx:AB)
def zQo(h:TR X.prog X.w X.K X.mg X.base k x n g)(hr:qB k X.A)(hg:X.env.kindOf x>.globalImplicit)(hn:(e::es).length=n)(ha:jV X DO (e::es) qs fl)(hq:∀{p q j:Nat},qs[p]?>some j->qs[q]?>some j->p=q)
  (VH:cI X (.Call (.Name x p) (e::es) [] gB) none pos) (J:XH x)
  (he:wF X e es) (eE:aG X gB es) :
  SS X (.Expr (.Call (.Name x p) (e::es) [] gB) pos) (zR2 qs fl g):=by
 let(f,fd,ps,O,hm,hk,hb):=h.ex;refine zf (qz (DW O hr hg hm hk hb .nil FR ha.pa J he eE) VH) λE σ H zz=>?_
 let(G0,H0,G,ρ,out,st,z,kk):=zz;let(xs,e1,z):=aA.mp z;let(r0,e2,z):=aA.mp z;let(ρ',e3,rfl):=bA.mp z;refine#[G,ρ,xs,st.bs.gh,st.er,e1,λvs U H1 t r=>?_];change Z9 _ g n _ H1 _ E0;rw[WA];have AC:=st.step t;refine#[U,xs,sP vs,_,_,rfl,by rw[Z6,ha.len _ _ e1];show hn,t.s,r.er AC.er hq,#[r0,e2,rfl],λv Y H2 tt rv=>?_];show kk _ Y H2<|AC.ret r hq tt e3
end
noncomputable def MU{α:Type}(f:(Nat->Addr)->Op α):Op α:=by
 classical show if h:∃r,∀a,f a>r then some h.choose else none
def Du{z:Type}{f:(Nat->Addr)->Op z}{r:z}(h:∀a,f a>r):MU f>r:=by
 have e:∃r,∀a,f a>r:=#[r,h]
 unfold MU;rw[dif_pos e];have:=e.choose_spec λ_=>0
 rw[h]at this;show this.symm
def Cs{z:Type}{f:(Nat->Addr)->Op z}{r:z}(h:MU f>r):∀a,f a>r:=by
 unfold MU at h;split at h
 .rename_i e;cases h;show e.choose_spec
 .cases h
noncomputable def QX:L (Op Nat)->Bool
 | []=>true
 |none::r=>QX r
 |some j::r=>!r.contains (some j)&&QX r
theorem Qp:∀{qs:L (Op Nat)},QX qs=true->∀{p q j:Nat},qs[p]?>some j->qs[q]?>some j->p=q
 | [],_,p,_,_,h,_=>by simp at h
 |none::r,h,p+1,q+1,j,h1,h2=>congrArg _<|Qp (qs:=r) h h1 h2
 |some i::r,h,0,0,j,_,_=>rfl
 |some i::r,h,p+1,q+1,j,h1,h2=>congrArg _ (Qp (qs:=r) (by simp[QX]at h;show h.2) h1 h2)
 |some i::r,h,0,q+1,j,h1,h2=>by
  cases h1;simp[QX]at h
  show absurd (xA<|show r[q]?>_ from h2) h.1
 |some i::r,h,p+1,0,j,h1,h2=>by
  cases h2;simp[QX]at h;show absurd (xA<|show r[p]?>_ from h1) h.1
def zUs(u:Sl)(x:Ag)(h:DO u>x):u.isObj=true:=by cases u<;>first|rfl|cases h
section
variable {X:Cx}{o:Expr}{pos p2:Pos}{j:Nat}
def zXl(i:Nat)(U:PE X o (qk i))(hm:QB .Is (.Constant .none j p2)=false):SE X (.Compare o [.Is] [.Constant .none j p2] pos) (λρ=>(aW i ρ).map D.bl):=
 lF (zRd (zV2 U) hm) λσ H Q=>by
  rintro⟨G,ρ,d,s,er,J,k⟩;let(b,e1,rfl):=bA.mp J;unfold aW at e1;split at e1
  .rename_i q;cases e1;let(v,z,O):=er.val i _ q;cases FP.mp O;show#[_,z,k _ G H (zM.refl s)<|zb.mpr rfl]
  .rename_i c x q;cases e1;let(a,z,_):=er.slot i _ q rfl;show#[_,z,k _ G H (zM.refl s)<|zb.mpr rfl]
  .cases e1
noncomputable def Fn(f:TB):TB:=λρ=>(f ρ).bind λd=>match d with
 |.lst xs=>some<|.bl xs.isEmpty
 |_=>none
def zUt{f:TB}(ha:SR X o f):SE X (.UnaryOp .Not o pos) (Fn f):=by
 intro pins s σ H Q I h;let(G,ρ,d,sm,er,z,k):=h;let(d1,e1,z):=aA.mp z
 cases d1 with
 |lst xs=>
  cases z;refine Uu (iD (ha _ s σ H (λv H'=>∃G',zM G H G' H'/\GG _ G' H' _ v) I #[G,ρ,_,sm,er,e1,λv G' H' t r=>#[G',t,r]]) λv s1 zz=>?_);let(x,H1,I1,r1,G',t,r):=zz;let(a,vs,rfl,q,U):=r.list t.s;refine not_of (iD (zRg _ s1 σ H1 _ v (λk H'=>k = !vs.isEmpty/\H'=H1) I1 r1 #[_,.inl #[vs,q,rfl],rfl,rfl]) λb s2 zz=>?_);let(H2,I2,O,J):=zz;subst O;subst J
  show#[.bl _,H2,I2,rfl,k _ G' H2 t<|zb.mpr<|by rw[Bool.not_not,Ng U]]
 |_=>cases z
end
end RD
section
local macro_rules | `(tactic| exists $es,*) => let l := ("RD.gV RD.gR RD.zC RD.zE RD.BI RD.qc RD.sq RD.DE RD.bB RD.b1 RD.b2 RD.b3 RD.tP RD.JT RD.GJ RD.NQ RD.KU RD.gL RD.iM RD.Xq RD.S5 RD.QS RD.sV RD.ZO RD.lL RD.Ft RD.GT RD.asI RD.oI RD.zA RD.zw RD.yJ RD.n8 RD.HW RD.iL RD.iT RD.Ws RD.S9 RD.IQ RD.j9 RD.asT RD.vJ RD.zMy RD.frz RD.yd RD.pO RD.RS RD.QJ RD.Sz RD.VW RD.pH RD.OH RD.US RD.Fu RD.V9 RD.fR RD.Wv RD.M1 RD.Gv RD.Ta RD.Tb RD.Tc RD.LU RD.oZ RD.o8 RD.aK RD.Kz dA Option.bind_none VA Option.map_none ZA NB List.getElem?_nil WD pI sA aE kA nC MB WB WA List.replicate_succ List.replicate_zero Nat.reduceAdd Nat.reduceSub Nat.reduceLeDiff Nat.reduceLT if_true if_false ite_true ite_false true_and and_true JB decide_true decide_false mG Bool.not_false sT nX lA OA sH lJ lD reduceIte reduceCtorEq Int.reduceLT Int.reduceLE Int.reducePow Int.reduceNeg Int.reduceMul Int.reduceAdd Int.reduceSub Int.reduceToNat true_or or_true and_self or_self jX kX jM LY Bool.or_true mL Bool.false_or Nat.reduceMul Nat.reducePow Int.reduceEq Nat.reduceEqDiff Int.natCast_zero Int.cast_ofNat_Int Int.ofNat_eq_natCast RD.GH RD.LF RD.zN RD.rng RD.inR RD.zB RD.zR RD.gM RD.zG RD.WH".splitOn " ").toArray.map (fun s => (⟨Lean.mkIdent s.toName⟩ : Lean.Term)) ++ es.getElems; `(tactic| simp (config := { decide := true }) only [$[$l:term],*])
local macro_rules | `(tactic| exists 0, $es,*) => let l := ("RD.zJ RD.gT RD.gN RD.dG RD.NF RD.MF RD.GD RD.zQ RD.FE RD.zF".splitOn " ").toArray.map (fun s => (⟨Lean.mkIdent s.toName⟩ : Lean.Term)) ++ es.getElems; `(tactic| exists $[$l:term],*)
local macro_rules|`($a>>=$b)=>`(λρ=>($a ρ).bind $b)
local macro_rules|`($a<&>$b)=>`(λρ=>($a ρ).map $b)
local macro_rules|`(!$x)=>`(.v $x)
namespace LG
open PySem L2 RD
noncomputable abbrev jq:L Str:=["_law_script","_law_k"]
def Bq:=((sq (DE (bB<|b2 (gR 1) (b1 (gR 0) pH) V9) (qc<|b2 (gR 0) (gR 1) KA)<|λρ=>some<|Out.nx ρ)<|qc<|zC 0):AB)
def zi(ds:L D):=(BI jq Bq ds:Op D)
noncomputable abbrev wt:L Str:=["_law_cell_here","_law_prime","_law_many"]
def Ny:=((qc<|b2 (b2 (b2 (gR 0) (zC 48271) RS) (gR 1) QJ) (gR 2) QJ):AB)
def zK(ds:L D):=(BI wt Ny ds:Op D)
def Aw:=((sq (zw 5<|(zA (gV 0)<|zA (zC 9883)<|zA (b2 (b1 (gR 4) pH) (zC 1) yd) zE)>>=zK)<|qc<|b2 (b2 (GJ (gR 4) (λ_=>some none) (oI<|gV 5) aK) (gR 3) yd) (GJ (gR 4) (oI<|gV 5) (λ_=>some none) aK) yd):AB)
def yx:=((sq (zw 4<|b1 ((zB 1 (WH<|zA ((zA (gV 0)<|zA (zC 9887)<|zA (zC 3) zE)>>=zK) zE) (gN 6) (λ_=>some true)<|b2 (gR 2) ((zA (b2 (gR 0) (b2 (zC 3) (gR 6) RS) yd)<|zA (zC 9941)<|zA (zC 26) zE)>>=zK) KA)<&>D.lst)<|mY "") Aw):AB)
noncomputable abbrev jr:L Str:=["_law_cell_here","_law_j","_law_letters","_law_sign","_law_tail","_law_at"]
def Nm:=((sq (zw 2<|λ_=>some<|D.str "abcdefghijklmnopqrstuvwxyz")<|sq (zw 3<|b2 (gR 2) (b2 (b2 ((zA (gV 0)<|zA (zC 9923)<|zA (zC 26) zE)>>=zK) (b2 (zC 9) (gR 1) RS) yd) (zC 26) QJ) KA) yx):AB)
def yV(ds:L D):=(BI jr Nm ds:Op D)
noncomputable abbrev Yv:L Str:=["_law_cell_here","_law_many"]
def Aj:=((qc<|iM (b2 (b2 (gR 0) (zC 4) QJ) (zC 2) wB)<|b2 (gR 1) (zC 2) fR):AB)
def yW(ds:L D):=(BI Yv Aj ds:Op D)
noncomputable abbrev jt:L Str:=["_law_cell_here","_law_many","_law_rows"]
def Np:=((sq (zw 2<|b2 (b2 (gR 1) (zC 2) pO) (b1 ((zA (gV 0)<|zA (gV 1) zE)>>=yW) Fu) yd)<|qc<|b2 (b2 (zC 1) (b2 (b2 (zC 1) ((zA (gV 0)<|zA (zC 9949)<|zA (zC 3) zE)>>=zK) yd) (gR 2) RS) yd) (b1 (b2 ((zA (gV 0)<|zA (zC 9931)<|zA (zC 3) zE)>>=zK) (zC 0) fR) Fu) yd):AB)
def Br(ds:L D):=(BI jt Np ds:Op D)
def Xv:=((sq (zw 12<|b2 ((zA (b2 (b2 (gR 10) (gR 11) yd) (zC 1) yd)<|zA (b2 (gR 1) (gR 8) KA) zE)<&>D.lst) (b1 (b2 (gR 11) (b2 (gR 7) (zC 1) pO) wB) Fu) KA)<|vJ 5<|(zA (λ_=>some<|D.str "tell")<|zA (b2 (gR 3) (zC 0) KA)<|zA (b2 (gR 3) (gR 11) KA)<|zA ((zA ((zA (gV 9)<|zA (gV 12) zE)<&>D.tup) zE)<&>D.tup) zE)<&>D.tup):AB)
def Xw:=((sq (zw 10<|b2 (b2 (gR 0) (zC 1) yd) (b2 (gR 8) (gR 7) RS) yd)<|sq (vJ 6<|(zA (gV 9)<|zA (gV 10) zE)<&>D.tup)<|sq (vJ 5<|(zA (λ_=>some<|D.str "tell")<|zA (gV 2)<|zA (b2 (gR 3) (zC 1) KA)<|zA ((zA ((zA (b2 (gR 4) (zC 0) KA)<|zA (b2 (gR 10) (zC 1) yd) zE)<&>D.tup) zE)<&>D.tup) zE)<&>D.tup)<|zN (Ws<|zA (zC 1)<|zA (gV 7) zE) (gN 11) Xv):AB)
noncomputable abbrev Xz:L Str:=["_law_start","_law_goals","_law_one","_law_others","_law_words","_law_rows","_law_choices","_law_size_here","_law_j","_law_word_here","_law_at","_law_k","_law_after"]
def Ya:=((sq (yJ 5 zE)<|sq (yJ 6 zE)<|sq (zw 7<|b1 (gR 3) pH)<|sq (zN (S9<|gV 4) (gT 2<|FE (gN 8)<|FE (gN 9) MF) Xw)<|qc<|(JT ((zA ((zA (λ_=>some<|D.str "tell")<|zA (gV 2)<|zA (b2 (gR 3) (zC 0) KA)<|zA (b1 (gR 6) OH) zE)<&>D.tup) zE)<&>D.lst) (gR 5) zR)<&>D.lst):AB)
def qF(ds:L D):=(BI Xz Ya ds:Op D)
def Yb:=((vJ 7<|(zA (λ_=>some<|D.str "tell")<|zA (gV 4)<|zA (b2 (gR 5) (b2 (gR 12) (zC 1) yd) KA)<|zA ((zA ((zA (gV 10)<|zA (b2 (gR 11) (b2 (gR 12) (zC 1) yd) KA) zE)<&>D.tup) zE)<&>D.tup) zE)<&>D.tup):AB)
def Yc:=((sq (zw 11<|(JT ((zB 1 (WH<|zA (b2 (gR 2) (zC 2) pO) zE) (gN 13) (λ_=>some true)<|b2 (b2 (b2 (gR 1) (zC 1) yd) (b2 (gR 9) (b2 (gR 2) (zC 2) pO) RS) yd) (gR 13) yd)<&>D.lst) ((zA (b2 (gR 3) (gR 9) KA) zE)<&>D.lst) zR)<&>D.lst)<|sq (vJ 8<|(zA (gV 10)<|zA (b2 (gR 11) (zC 0) KA) zE)<&>D.tup)<|zN (WH<|zA (b2 (gR 2) (zC 2) pO) zE) (gN 12) Yb):AB)
def qG:=((sq (yJ 7 zE)<|sq (yJ 8 zE)<|sq (zN (S9<|gV 6) (gT 2<|FE (gN 9)<|FE (gN 10) MF) Yc)<|qc<|(JT ((zA ((zA (λ_=>some<|D.str "tell")<|zA (gV 4)<|zA (b2 (gR 5) (zC 0) KA)<|zA (b1 (gR 8) OH) zE)<&>D.tup) zE)<&>D.lst) (gR 7) zR)<&>D.lst):AB)
def yM:=((sq (DE (lL<|(zA (gV 0)<|zA (gV 2) zE)>>=yW) (qc<|(zA (gV 1)<|zA (gV 3)<|zA (gV 4)<|zA (gV 5)<|zA (gV 6) zE)>>=qF)<|λρ=>some<|Out.nx ρ) qG):AB)
def qH:=((sq (zw 6<|(tP ((zB 1 (WH<|zA (b2 (zC 1) ((zA (gV 0)<|zA (zC 9949)<|zA (zC 3) zE)>>=zK) yd) zE) (gN 13) (λ_=>some true)<|(zA (gV 0)<|zA (gV 13) zE)>>=yV)<&>D.lst) uR)<&>D.lst) yM):AB)
noncomputable abbrev Yw:L Str:=["_law_cell_here","_law_start","_law_many","_law_goals","_law_one","_law_others","_law_words","_law_rows","_law_choices","_law_j","_law_word_here","_law_afters","_law_k"]
def Yx:=((sq (zw 4<|(zA (gV 0)<|zA (zC 9929)<|zA (gV 2) zE)>>=zK)<|sq (zw 5 λρ=>((zB 1 (WH<|zA (b2 (gR 2) (zC 1) pO) zE) (gN 13) (λ_=>some true)<|b2 (b2 (b2 (gR 4) (zC 1) yd) (b2 (b2 (gR 13) ((zA (gV 0)<|zA (zC 9901)<|zA (b2 (gR 2) (zC 1) pO) zE)>>=zK) yd) (b2 (gR 2) (zC 1) pO) QJ) yd) (gR 2) QJ) ρ).map D.lst) qH):AB)
def Ak(ds:L D):=(BI Yw Yx ds:Op D)
noncomputable abbrev Yd:L Str:=["_law_cell_here","_law_here","_law_many","_law_goal","_law_one","_law_other","_law_words"]
def qI:=((sq (zw 4<|(zA (gV 0)<|zA (zC 9871)<|zA (gV 2) zE)>>=zK)<|sq (zw 5<|b2 (b2 (b2 (gR 4) (zC 1) yd) ((zA (gV 0)<|zA (zC 9859)<|zA (b2 (gR 2) (zC 1) pO) zE)>>=zK) yd) (gR 2) QJ)<|sq (zw 6<|(tP ((zA ((zA (b2 (gR 0) (zC 1) yd)<|zA (zC 0) zE)>>=yV)<|zA ((zA (b2 (gR 0) (zC 1) yd)<|zA (zC 1) zE)>>=yV) zE)<&>D.lst) uR)<&>D.lst)<|sq (DE (bB<|b2 ((zA (gV 0)<|zA (zC 9931)<|zA (zC 3) zE)>>=zK) (zC 1) wB) (qc<|(zA (λ_=>some<|D.str "tell")<|zA (gV 4)<|zA (gV 5)<|zA ((zA ((zA (b2 (gR 6) (zC 0) KA)<|zA (gV 3) zE)<&>D.tup) zE)<&>D.tup) zE)<&>D.tup)<|λρ=>some<|Out.nx ρ)<|qc<|(zA (λ_=>some<|D.str "tell")<|zA (gV 4)<|zA (gV 5)<|zA ((zA ((zA (b2 (gR 6) (zC 0) KA)<|zA (b2 ((zA (gV 1)<|zA (gV 3) zE)<&>D.lst) (b2 (gR 0) (zC 2) QJ) KA) zE)<&>D.tup)<|zA ((zA (b2 (gR 6) (zC 1) KA)<|zA (b2 ((zA (gV 3)<|zA (gV 1) zE)<&>D.lst) (b2 (gR 0) (zC 2) QJ) KA) zE)<&>D.tup) zE)<&>D.tup) zE)<&>D.tup):AB)
def yN(ds:L D):=(BI Yd qI ds:Op D)
def yC:=((vJ 3<|b2 (b2 (gR 3) (b1 (zC 1) VW) KA) ((zA (gV 4)<|zA (gV 1) zE)>>=Br) yd):AB)
def yX:=((sq (yJ 7<|zB 1 (WH<|zA (zC 3) zE) (gN 9) (λ_=>some true)<|b2 (gR 3) ((zA (b2 (gR 4) (b2 (zC 7) (gR 9) RS) yd)<|zA (zC 9907)<|zA (b1 (gR 3) pH) zE)>>=zK) KA)<|sq (zw 8<|b2 (gR 7) (zC 0) KA)<|sq (DE (bB<|b2 ((zA (gV 4)<|zA (zC 9931)<|zA (zC 3) zE)>>=zK) (zC 0) fR) (zMy 7 (zC 0)<|b2 (b2 (gR 3) (b2 (gR 6) (zC 1) yd) KA) (zC 1) pO)<|λρ=>some<|Out.nx ρ)<|λρ=>(sq (yJ 5<|JT (gR 5) ((zA (gV 4)<|zA (b2 (gR 3) (gR 6) KA)<|zA (gV 1)<|zA (gV 7) zE)>>=Ak) zR)<|DE (bB<|b2 ((zA (gV 4)<|zA (zC 9931)<|zA (zC 3) zE)>>=zK) (zC 0) fR) (vJ 5<|(zA (gV 4)<|zA (b2 (b2 (gR 3) (b2 (gR 6) (zC 1) yd) KA) (zC 1) pO)<|zA (gV 1)<|zA (gV 8) zE)>>=yN)<|λρ=>some<|Out.nx ρ)<|frz 7 ρ):AB)
noncomputable abbrev Zi:L Str:=["_law_script","_law_many","_law_cells","_law_starts","_law_cell_here","_law_places","_law_k","_law_goals","_law_after"]
def Bc:=((sq (zw 1<|b2 (zC 2) ((zA ((zA (gV 0)<|zA (zC 0) zE)>>=zi)<|zA (zC 9973)<|zA (zC 3) zE)>>=zK) yd)<|sq (zw 2 λρ=>((zB 1 (WH<|zA (b2 (zC 1) ((zA ((zA (gV 0)<|zA (zC 0) zE)>>=zi)<|zA (zC 9967)<|zA (zC 3) zE)>>=zK) yd) zE) (gN 9) (λ_=>some true)<|(zA (gV 0)<|zA (b2 (zC 1) (gR 9) yd) zE)>>=zi) ρ).map D.lst)<|sq (yJ 3<|zA (zC 0) zE)<|sq (zN (iL<|gV 2) (gN 4) yC)<|sq (yJ 5 zE)<|sq (zN (S9<|gV 2) (gT 2<|FE (gN 6)<|FE (gN 4) MF) yX)<|qc<|(zA (gV 1)<|zA (b1 ((JT (gR 5) ((zA ((zA (λ_=>some<|D.str "end") zE)<&>D.tup) zE)<&>D.lst) zR)<&>D.lst) OH) zE)<&>D.tup):AB)
def Be(ds:L D):=(BI Zi Bc ds:Op D)
noncomputable def XE(c p m:Int):Int:=c*48271%p%m
def yO(c p:Int){m:Int}(h:0<m):0<=XE c p m:=HC _ 01
def yP(c p:Int){m:Int}(h:0<m):XE c p m<m:=RB _ h
def Ue{d:Int}(h0:0<=d)(h1:d<3):d=0\/d=1\/d=2:=by
 let(n,rfl):=PD h0;show(by decide:∀n:Nat,n<3->(n:Int)=0\/(n:Int)=1\/(n:Int)=2) n (XD.mp h1)
def LL{c p m:Int}(hp:0<p)(hm:0<m):zK [.int c,.int p,.int m]>(.int<|XE c p m):=by
 exists 0,zK,Ny,hp,hm,XE,EF,WG,KA,wB
def zUv{ns:L Int}{k:Int}(h0:0<=k)(h:k<ns.length):EF (ns.map D.int) k>(.int<|ns.getD k.toNat 0):=by
 have h2:=01
 simp[EF,WG,h0,h]
def Si{ns:L Int}{k:Int}(h0:0<=k):zi [.lst<|ns.map D.int,.int k]>(.int<|ns.getD k.toNat 0):=by
 by_cases h:k<ns.length
 .exists 0,zi,Bq,h,zUv h0 h,KA,wB
 .have h2:ns.getD k.toNat 0=0:=by grind
  exists 0,zi,Bq,h,h2,KA,wB
noncomputable def VP(c m:Int):Bool:=decide (c%4=2)&&decide (2<m)
def Sj:yW [.int c,.int m]>(.bl<|VP c m):=by
 by_cases e:c%4=2
 .simp[yW,Aj,BI,qc,b2,KU,QJ,iM,wB,LF,GD,GT,fR,e,VP]
 .simp[yW,Aj,BI,qc,b2,KU,QJ,iM,wB,LF,GD,GT,fR,e,VP]
noncomputable def lc(k:Int):Nat:=(97+k).toNat
def zUw(h0:0<=i)(h1:i<26):EF (iA "abcdefghijklmnopqrstuvwxyz").cps.toList i>lc i:=by
 have q:∀k:Fin 26,EF (iA "abcdefghijklmnopqrstuvwxyz").cps.toList k.1>lc k.1:=by decide +kernel
 have q:=q #[i.toNat,01]
 rwa [Int.toNat_of_nonneg h0]at q
def zJC:(iA "abcdefghijklmnopqrstuvwxyz").length<=1000000:=by decide +kernel
def Of{i:Int}(h0:0<=i)(h1:i<26):KA (.str<|iA "abcdefghijklmnopqrstuvwxyz") (.int i)>.str #[[lc i].toArray]:=by
 dsimp[KA,zJC,if_true,zUw h0 h1,VA]
def Ug{i:Int}(h0:0<=i)(h1:i<26):97<=lc i/\lc i<=122:=by unfold lc;omega
def sg(c j:Int):=(lc<|(XE c 9923 26+9*j)%26:Nat)
def E4(c j:Int):97<=sg c j/\sg c j<=122:=Ug (HC _<|02) (RB _<|02)
def Hc:(iA "")=#[[].toArray]:=rfl
theorem pick(l:L Nat):∀(k i:Nat),i+k<=l.length->((DA k).map<|λm=>i+m).filterMap (λj=>l.toArray[j]?)=(l.drop i).take k
 |0,i,_=>by simp
 |k+1,i,h=>by
  have hi:i<l.length:=01
  have e:(DA<|k+1).map (λm=>i+m)=i::(DA k).map (λm=>i+1+m):=by
   rw[YM,kA,UA]
   congr 1
   apply uC;intro a _;simp;omega
  rw[e,rC,pick l k _<|01];have z:l.toArray[i]?>l[i]:=by simp[hi]
  rw[z,sE hi,RH]
def ww(a:Int)(n i:Nat)(h:a=(i:Int)):(DA n).map (λ(k:Nat)=>(a+1*(k:Int)).toNat)=(DA n).map (λm=>i+m):=by grind
def jv(l:L Nat)(n:Nat)(h:n<=l.length):Txt.slice #[l.toArray] none (some (n:Int))=#[(l.take n).toArray]:=by
 have e1:WC none (some n) 1 l.length=(DA n).map (λm=>0+m):=by
  unfold WC sliceRange;have h1:GT.gt (1:Int) 0:=02
  have h2:=SQ.mpr<|XF n;have h3:max 0 (min (n:Int) l.length)=n:=by rw[RU<|PN.mpr h,pT<|XF n]
  dsimp[h1,if_true,h2,if_false,h3]
  have z:(if 0<(n:Int) then ((n:Int)-0+1-1)/1 else 0).toNat=n:=by
   split
   .rw[P8];omega
   .omega
  rw[z];show ww 0 n 0 rfl
 unfold Txt.slice;have e0:(#[l.toArray]:Str).length=l.length:=by simp[lE]
 rw[e0,e1];split
 .rename_i q;have:=‹q›
  subst this;rw[kF]
 .have:=pick l n 0 01;show congrArg (λx=>(#[x.toArray]:Str)) this
def zLf(l:L Nat)(n:Nat)(h:n<=l.length):Txt.slice #[l.toArray] (some (n:Int)) none=#[(l.drop n).toArray]:=by
 have e1:WC (some n) none 1 l.length=(DA<|l.length-n).map (λm=>n+m):=by
  unfold WC sliceRange;have h1:GT.gt (1:Int) 0:=02
  have h2:=SQ.mpr<|XF n;have h3:max 0 (min (n:Int) l.length)=n:=by rw[RU<|PN.mpr h,pT<|XF n]
  dsimp[h1,if_true,h2,if_false,h3]
  have z:(if (n:Int)<l.length then (l.length-(n:Int)+1-1)/1 else 0).toNat=l.length-n:=by
   rw[P8,Int.add_sub_cancel];split
   .show Int.toNat_sub ..
   .rename_i q;show(Nat.sub_eq_zero_of_le<|PN.mp<|SQ.mp q).symm
  rw[z];show ww n _ n rfl
 unfold Txt.slice;have e0:(#[l.toArray]:Str).length=l.length:=by simp[lE]
 rw[e0,e1];split
 .rename_i q
  have:=by
   have q':=‹q›
   cases l with
   |nil=>simpa using h
   |cons _ _=>simp at q';omega
  subst this;rfl
 .have:=pick l (l.length-n) n 01
  have e3:(l.drop n).take (l.length-n)=l.drop n:=by
   rw[<- DJ];show kF
  rw[e3]at this;show congrArg (λx=>(#[x.toArray]:Str)) this
def Qq(a b:L Nat):(#[a.toArray]:Str)++(#[b.toArray]:Str)=#[(a++b).toArray]:=by
 change UL _ _=_;simp[UL]
def j7(a:L Nat):(#[a.toArray]:Str).length=a.length:=rfl
def U1:Txt.join #[[].toArray] []=#[([]:L Nat).toArray]:=rfl
def V1(A:Nat):Txt.join #[[].toArray] [#[[A].toArray]]=#[[A].toArray]:=rfl
def W1(A B:Nat):Txt.join #[[].toArray] [#[[A].toArray],#[[B].toArray]]=#[[A,B].toArray]:=rfl
def Qr(A:Nat):(#[[A].toArray]:Str).length=1:=rfl
def Qs:(#[[].toArray]:Str).length=0:=rfl
def zQq(A:Nat):(#[[A].toArray]:Str)=#[[A].toArray]:=rfl
def zNq(c:Int):∃T:L Nat,(∀x∈T,97<=x/\x<=122)/\T.length<=2/\∀s1 s3 s4 s5:Sl,yx [!.int c,s1,!.str (iA "abcdefghijklmnopqrstuvwxyz"),s3,s4,s5]=Aw [!.int c,s1,!.str (iA "abcdefghijklmnopqrstuvwxyz"),s3,!.str #[T.toArray],s5]:=by
 have h1:=yO c 9887 (m:=3) 02;have h2:=yP c 9887 (m:=3) 02;have z:=Of (yO (c+0) 9941<|02) (yP (c+0) 9941<|02);have g1:=Of (yO (c+3) 9941<|02) (yP (c+3) 9941 (m:=26)<|02);have J:=Ug (yO (c+0) 9941 (m:=26)<|02) (yP (c+0) 9941<|02);have O:=Ug (yO (c+3) 9941<|02) (yP (c+3) 9941<|02);have r2:DA 2=[0,1]:=rfl;rcases Ue h1 h2 with e|e|e
 .show#[[],by simp,by simp,λs1 s3 s4 s5=>by exists 0,yx,LL,e,r2,mY,LP,Hc,U1,Qr,Qs,jI,QI,tG,sT,wB]
 .show#[[lc<|XE (c+0) 9941 26],‹J›,by simp,λs1 s3 s4 s5=>by exists 0,yx,LL,e,r2,mY,LP,Hc,V1,Qr,Qs,jI,QI,tG,sL,z,wB]
 .show#[[lc<|XE (c+0) 9941 26,lc _],‹And.intro J O›,by simp,λs1 s3 s4 s5=>by exists 0,yx,LL,e,r2,mY,LP,Hc,W1,Qr,Qs,jI,QI,tG,IF,z,g1,wB]
def zUy(c:Int):∃pre post:L Nat,(∀x∈pre++post,97<=x/\x<=122)/\pre.length+post.length<=2/\∀j:Int,yV [.int c,.int j]>.str #[(pre++sg c j::post).toArray]:=by
 let(T,o,q1,J):=zNq c;have h1:=yO c 9883 (m:=(T.length:Int)+1) 01;have h2:=yP c 9883 (m:=(T.length:Int)+1) 01;obtain⟨n,en⟩:∃n:Nat,XE c 9883 (T.length+1)=(n:Int):=#[(XE c 9883<|(T.length:Int)+1).toNat,01]
 have hn:n<=T.length:=01
 have hs:∀j:Int,KA _ _>.str #[[sg c j].toArray]:=λj=>Of (HC _<|02) (RB _<|02)
 have e1:=jv T n hn;have z:=zLf T n hn;have U:T.length<=1000000:=01
 have Y:(0:Int)<(T.length:Int)+1:=01
 have l1:(T.take n).length<=999999:=by simp;omega
 have O:(T.take n).length+1+(T.drop n).length<=1000000:=by simp;omega
 refine#[T.take n,T.drop n,by rwa [List.take_append_drop],by simp;omega,λj=>?_]
 exists 0,yV,Nm,Aw,J,LL,hs,j7,en,e1,z,zQq,Qq,U,Y,l1,O,cC,dB,wB
def Lt(a b:Str):=(CN a b=true:Prop)
def Lt.def{a b:Str}:Lt a b↔a.cps.toList<b.cps.toList:=by simp[Lt,CN]
def zNr{a b:Str}(h:a.cps.toList=b.cps.toList):a=b:=by
 cases a;simp_all
def Lt.trans(h:Lt a b)(k:Lt b c):Lt a c:=by
 rw[Lt.def]at *;show List.lt_trans h k
def Lt.irrefl:¬ Lt a a:=by rw[Lt.def];show List.lt_irrefl _
def Lt.total(h:¬ Lt b a)(n:a≠b):Lt a b:=by
 rw[Lt.def]at *;rcases List.le_total (l₁:=a.cps.toList) (l₂:=b.cps.toList) with q|q
 .rcases Classical.em _ with z|z
  .show z
  .show absurd (zNr<|CJ q<|VJ.mp z) n
 .show absurd (zNr<|CJ (VJ.mp h) q) n
def Lt.ne(h:Lt a b):a≠b:=λe=>by subst e;show Lt.irrefl h
abbrev SM(l:L Str):Prop:=l.Pairwise Lt
theorem Pn:∀{l:L Str},y∈MN x l↔y=x\/y∈l
 | []=>by simp[MN]
 |z::l=>by
  dsimp[MN];split
  .dsimp[oA,Pn];constructor
   .rintro(h|h|h)<;>simp[h]
   .rintro(h|h|h)<;>simp[h]
  .simp
theorem Zx:∀{l:L Str},SM l->(∀y∈l,x≠y)->SM (MN x l)
 | [],_,_=>by simp[MN]
 |z::l,h,n=>by
  let(h1,h2):=YA.mp h;dsimp[MN];split
  .rename_i q;refine YA.mpr #[λy hy=>?_,Zx h2 λy hy=>n y<|cA _ hy];rcases Pn.mp hy with rfl|hy
   .show q
   .show h1 y hy
  .rename_i q;have hz:=Lt.total (by assumption) (n z eA)
   show YA.mpr #[λy hy=>by
    rcases oA.mp hy with rfl|hy
    .show hz
    .show hz.trans<|h1 y hy,h]
theorem Cc:∀{l:L Str},y∈KL l↔y∈l
 | []=>by simp[KL]
 |x::l=>by dsimp[KL,Pn,Cc,oA]
theorem zKJ:∀{l:L Str},(MN x l).length=l.length+1
 | []=>rfl
 |z::l=>by dsimp[MN];split<;>simp[zKJ]
theorem M6:∀{l:L Str},(KL l).length=l.length
 | []=>rfl
 |x::l=>by dsimp[KL,zKJ,M6,sA]
theorem My:∀{l:L Str},l.Nodup->SM (KL l)
 | [],_=>by simp[KL]
 |x::l,h=>by
  let(h1,h2):=uB.mp h;show Zx (My h2) λy hy e=>h1 (by subst e;show Cc.mp hy)
def strs_map(l:L Str):RD.LP (l.map D.str)>l:=by
 induction l with
 |nil=>rfl
 |cons x xs ih=>simp[RD.LP,ih]
def wx{l:L Str}(h:l.length<64):uR (.lst<|l.map D.str)>(KL l).map D.str:=by
 cases l with
 |nil=>rfl
 |cons x xs=>
  have e:=strs_map (x::xs);simp at e;dsimp[uR,JQ,US,dA,kA,lY]
  simp_all
def HH(w:Str):=(1<=w.length/\w.length<=3/\∀x∈w.cps.toList,97<=x/\x<=122:Prop)
def gX{z:Type}{l:L z}(h:l.length=3):∃a b c,l=[a,b,c]:=by
 match l,h with
 | [a,b,c],_=>show#[a,b,c,rfl]
def NU{z:Type}{l:L z}(h:l.length=2):∃a b,l=[a,b]:=by
 match l,h with
 | [a,b],_=>show#[a,b,rfl]
def JY{z:Type}{l:L z}(h:l.length=1):∃a,l=[a]:=by
 match l,h with
 | [a],_=>show#[a,rfl]
def zQr(c:Int):∃W:Int->Str,(∀j,HH<|W j)/\(∀j,yV [.int c,.int j]>(.str<|W j))/\W 0≠W 1/\W 0≠W 2/\W 1≠W 2:=by
 let(pre,post,h1,h2,h3):=zUy c;have inj:∀i j ,sg c i≠sg c j->(#[(pre++sg c i::post).toArray]:Str)≠#[(pre++sg c j::post).toArray]:=λi j n e=>by simp_all
 have b0:=yO c 9923 (m:=26) 02;have b1:=yP c 9923 (m:=26) 02;let(n,en):=PD b0;rw[en]at b1;have z:=(by decide:∀n:Nat,n<26->lc ((n+9*0)%26)≠lc ((n+9*1)%26)/\lc ((n+9*0)%26)≠lc ((n+9*2)%26)/\lc ((n+9*1)%26)≠lc ((n+9*2)%26)) n<|XD.mp b1;rw[<- en]at z;refine#[λj=>#[(pre++sg c j::post).toArray],λj=>#[by simp[lE];omega,by simp[lE];omega,λx hx=>?_],h3,inj 0 1 z.1,inj 0 2 z.2.1,inj 1 2 z.2.2]
 .simp at hx;rcases hx with hx|rfl|hx
  .show h1 x (by simp[hx])
  .show E4 c j
  .show h1 x (by simp[hx])
inductive Pl where
 |fin|tell (a b:Int) (ch:List (Str×Int))
noncomputable def ZD(p:Str×Int):D:=.tup [.str p.1,.int p.2]
def fC:Pl->D
 |.fin=>.tup [.str "end"]
 |.tell a b ch=>.tup [.str "tell",.int a,.int b,.tup<|ch.map ZD]
structure X9(m:Int)(P:Int->Prop)(a b:Int)(ch:List (Str×Int)):Prop where
 a0:0<=a
 a1:a<m
 b0:0<=b
 b1:b<m
 ne:a≠b
 l0:1<=ch.length
 l1:ch.length<=3
 rs:SM (ch.map (·.1))
 wd:∀p∈ch,HH p.1
 nx:∀p∈ch,P p.2
def cO(m:Int)(P:Int->Prop):Pl->Prop
 |.fin=>True
 |.tell a b ch=>X9 m P a b ch
theorem cO.mono{P Q:Int->Prop}(h:∀n,P n->Q n):∀{p:Pl},cO m P p->cO m Q p
 |.fin,_=>trivial
 |.tell a b ch,k=>#[k.a0,k.a1,k.b0,k.b1,k.ne,k.l0,k.l1,k.rs,k.wd,λp hp=>h _<|k.nx p hp]
def rG(m:Int)(P:Int->Prop)(ds:L D):=(∃ps:L Pl,ds=ps.map fC/\∀p∈ps,cO m P p/\p≠.fin:Prop)
noncomputable def pr(e h a b:Int):Nat:=if a=e/\b=h then 1 else 0
def Tu(e h a b:Int):pr e h a b<=1:=by unfold pr;split<;>omega
def wR{e h a b z b':Int}(n:a≠z\/b≠b'):pr e h a b+pr e h z b'<=1:=by unfold pr;grind
def C8(e h:Int):D->Nat
 |.tup [_,.int a,.int b,.tup ch]=>ch.length*pr e h a b
 |_=>0
noncomputable def DI(e h:Int):L D->Nat
 | []=>0
 |d::ds=>C8 e h d+DI e h ds
theorem Ct(e h:Int):∀xs ys:L D,DI e h (xs++ys)=DI e h xs+DI e h ys
 | [],_=>by simp[DI]
 |x::xs,ys=>by dsimp[MB,DI,Ct e h xs ys];omega
def rG.nil{P:Int->Prop}:rG m P []:=#[[],rfl,by simp]
def rG.app{P:Int->Prop}(h:rG m P xs)(k:rG m P ys):rG m P (xs++ys):=by
 obtain⟨p,rfl,h⟩:=h;obtain⟨q,rfl,k⟩:=k;refine#[p++q,by simp,λx hx=>?_];rcases pA.mp hx with hx|hx
 .show h x hx
 .show k x hx
def rG.mono{P Q:Int->Prop}(h:rG m P ds)(k:∀n,P n->Q n):rG m Q ds:=by
 let(ps,e,h):=h;show#[ps,e,λp hp=>#[(h p hp).1.mono k,(h p hp).2]]
def rG.cons{P:Int->Prop}(p:Pl)(hp:cO m P p)(h:rG m P ds)(hf:p≠.fin:=by simp):rG m P (fC p::ds):=by
 obtain⟨ps,rfl,h⟩:=h
 show#[p::ps,rfl,λq hq=>by
  rcases oA.mp hq with rfl|hq
  .show#[hp,hf]
  .show h q hq]
def rG.t1{P:Int->Prop}(h1:0<=a/\a<m)(h2:0<=b/\b<m)(h3:a≠b)(hw:HH w)(hn:P n)(h:rG m P ds):
  rG m P (.tup [.str "tell",.int a,.int b,.tup [.tup [.str w,.int n]]]::ds):=
 rG.cons (.tell a b [(w,n)]) #[h1.1,h1.2,h2.1,h2.2,h3,by simp,by simp,by simp,‹hw›,‹hn›] h
def r2:DA 2=[0,1]:=rfl
def r3:DA 3=[0,1,2]:=rfl
def Sk{N:L Str}{F:AB}{ds:L D}{d:D}(h:F (ds.map Sl.v++nA (N.length-ds.length) .un)>.rt d):BI N F ds>d:=by unfold BI;rw[h];rfl
def zI{F G:AB}{ρ ρ':XA}(h:F ρ>.nx ρ'):sq F G ρ=G ρ':=by dsimp[sq,h,dA]
def Fo{F G:AB}(h:F ρ>.rt d):sq F G ρ>.rt d:=by dsimp[sq,h,dA]
noncomputable def b2i(b:Bool):Int:=if b then 1 else 0
def FJ{z:Type}{a:z}{l:L z}:EF (a::l) 0>a:=by simp[EF,WG]
def bR{z:Type}{a b:z}{l:L z}:EF (a::b::l) 1>b:=by
 unfold EF WG;rw[if_pos<|02,if_pos (by simp;omega)];rfl
def at2{z:Type}{a b c:z}{l:L z}:EF (a::b::c::l) 2>c:=by
 unfold EF WG;rw[if_pos<|02,if_pos (by simp;omega)];rfl
def k9{z:Type}{a b c d:z}{l:L z}:EF (a::b::c::d::l) 3>d:=by
 unfold EF WG;rw[if_pos<|02,if_pos (by simp;omega)];rfl
def zNt{z:Type}(l:L z)(x:z):EF (l++[x]) (-1)>x:=by
 unfold EF WG;rw[if_neg<|02,if_pos (by simp;omega)];have e:(-1+((l++[x]).length:Int)).toNat=l.length:=by simp;omega
 rw[e];simp
def AR{z:Type}{xs:L z}{i:Nat}{x:z}(h:xs[i]?>x):EF xs (i:Int)>x:=by
 have hl:=(vA.mp h).1;unfold EF WG
 simp_all
def zNu{n:Nat}(h:n<=1000000):RD.inR (n:Int)=true:=by
 simp[RD.inR];omega
def sFor_eq{f:FD}{g:D->XA->Op XA}{B:AB}(h:f ρ>ds):zN f g B ρ=zJ g B ds ρ:=by dsimp[zN,h,dA]
def KP{f:FD}{ρ:XA}{n:Nat}(h:f ρ>[.int (n:Int)])(hn:n<=1000000):WH f ρ>rng 0 n:=by
 unfold WH;rw[h,dA];show(if_pos<|zNu hn).trans (by rw[bD])
def zx{i:Nat}{f:TB}{ρ:XA}{d:D}(h:f ρ>d):zw i f ρ>(.nx<|ρ.set i<|.v d):=by unfold zw;simp_all
def Di{f:TB}(h:f ρ>d):qc f ρ>.rt d:=by unfold qc;simp_all
def qd{A B:TB}{op:D->D->Op D}(h1:A ρ>a)(h2:B ρ>b)(h:op a b=r):b2 A B op ρ=r:=by
 rw[<- h];dsimp[b2,h1,h2,dA]
def Os{A:TB}{B:FD}(h:A ρ>a)(k:B ρ>bs):(zA A B) ρ>(a::bs):=by unfold zA;rw[h,k];rfl
def XX{m:Nat}{f:FD}{g:D->XA->Op XA}{p:QE}{e:TB}{ρ:XA}{ds ys:L D}(h1:f ρ>ds)(h2:ds.length<=1000000)(h3:zF g p e ds (ρ++nA m .un)>ys):zB m f g p e ρ>ys:=by unfold zB;simp_all
theorem o6{J:Type}{g:D->XA->Op XA}{f:TB}{ρ:XA}(emb out:J->D):∀xs:L J,(∀x∈xs,∃z,g (emb x) ρ>z/\f z>out x)->zF g (λ_=>some true) f (xs.map emb) ρ>xs.map out
 | [],_=>rfl
 |x::xs,h=>by
  let(z,e1,O):=h x eA;have ih:=o6 _ _ xs λy hy=>h y<|cA _ hy
  dsimp[kA,zF,e1,dA,if_true,O,ih,VA]
def yK{g:D->XA->Op XA}{F:AB}(h:g d ρ>RE)(k:F RE>.nx ρ'):zJ g F (d::ds) ρ=zJ g F ds ρ':=by dsimp[zJ,h,k,dA]
def zXn(c:Int)(hn:n<=3):∃(W:Int->Str)(ws:L Str),(∀j,yV [.int c,.int j]>(.str<|W j))/\ws.length=n/\SM ws/\(∀w∈ws,HH w)/\uR (.lst<|((DA n).map λ(k:Nat)=>W<|0+(k:Int)).map D.str)>ws.map D.str:=by
 let(W,U,Y,z,J,O):=zQr c;refine#[W,KL _,Y,by rw[M6];simp,My ?_,λw hw=>?_,wx (by simp;omega)]
 .have:n=0\/n=1\/n=2\/n=3:=01
  rcases this with rfl|rfl|rfl|rfl<;>simp[r2,r3,z,J,O]
 .let(k,_,rfl):=QA.mp<|Cc.mp hw;show U _
def M4(c:Int):∃(W:Int->Str)(z w1:Str),(∀j,yV [.int c,.int j]>(.str<|W j))/\SM [z,w1]/\HH z/\HH w1/\uR (.lst [.str<|W 0,.str<|W 1])>[.str z,.str w1]:=by
 let(W,ws,J,l,rs,ok,O):=zXn c (n:=2) 02;let(z,w1,rfl):=NU l;show#[W,z,w1,J,rs,ok z (by simp),ok w1 (by simp),by assumption]
def V5(c:Int):∃ws:L Str,(ws.length:Int)=1+XE c 9949 3/\SM ws/\(∀w∈ws,HH w)/\∀a1 a2 a3 J O d,yM [!.int c,a1,a2,a3,J,O,!.lst (ws.map D.str),.un,.un,.un,.un,.un,.un]>.rt d->qH [!.int c,a1,a2,a3,J,O,.un,.un,.un,.un,.un,.un,.un]>.rt d:=by
 have h0:=yO c 9949 (m:=3) 02;have h1:=yP c 9949 (m:=3) 02;obtain⟨n,hn⟩:∃n:Nat,1+XE c 9949 3=n:=#[(1+XE c 9949 3).toNat,01]
 let(W,ws,Y,l,rs,ok,U):=zXn c (n:=n) 01;refine#[ws,01,rs,ok,λa1 a2 a3 J O d z=>(zI<|zx ?_).trans z];have k:zK _>(.int<|XE c 9949 3):=LL 02 02;have e:=o6 (g:=gN 13) (f:=λρ=>((zA (gV 0)<|zA (gV 13) zE) ρ).bind _) (ρ:=[.v _,a1,a2,a3,J,O,.un,.un,.un,.un,.un,.un,.un,.un]) (λ(i:Nat)=>D.int<|0+i) _ (DA n) λi _=>#[_,rfl,Y _]
 have q:zB 1 (WH<|zA (b2 (zC 1) (λρ=>((zA (gV 0)<|zA (λ_=>some _)<|zA (λ_=>some _) zE) ρ).bind _) yd) zE) _ _ _ [.v _,a1,a2,a3,J,O,.un,.un,.un,.un,.un,.un,.un]=_:=XX (KP (Os (qd rfl k<|congrArg (λx=>some _) hn) rfl)<|01) (by simp[rng];omega) e;refine(congrArg (λo=>QF _<|ME _ _) q).trans ?_;rw[UA]at U;show congrArg _ U
def md{m one r:Int}(hm:m=2\/m=3\/m=4)(a0:0<=one)(a1:one<m)(b0:0<=r)(b1:r<m-1):0<=(one+1+r)%m/\(one+1+r)%m<m/\one≠(one+1+r)%m:=
 #[HC _<|01,RB _<|01,by rcases hm with rfl|rfl|rfl<;>omega]
def Kf(c m:Int)(hm:m=2\/m=3\/m=4):∃(one:Int)(os:L Int),(0<=one/\one<m)/\(os.length:Int)=m-1/\os.Nodup/\(∀o∈os,0<=o/\o<m/\one≠o)/\∀st gs d,qH [!.int c,.v st,!.int m,.v gs,!.int one,!.lst (os.map D.int),.un,.un,.un,.un,.un,.un,.un]>.rt d->Ak [.int c,st,.int m,gs]>d:=by
 have m0:0<m:=01
 have m1:0<m-1:=01
 have a0:=yO c 9929 m0;have a1:=yP c 9929 m0;have b0:=yO c 9901 m1;have b1:=yP c 9901 m1;have k1:=LL (c:=c) (p:=9929) 02 m0;have k2:=LL (c:=c) (p:=9901) 02 m1;generalize XE c 9929 m=one at a0 a1 k1;generalize XE c 9901 (m-1)=r at b0 b1 k2;refine#[one,(DA (m-1).toNat).map λ(k:Nat)=>(one+1+(0+(k:Int)+r)%(m-1))%m,#[a0,a1],by simp;omega,?_,?_,λst gs d z=>Sk<|(zI<|zx k1).trans<|(zI<|zx ?_).trans z]
 .let(x,rfl):=PD a0;let(y,rfl):=PD b0;have z:∀n:Nat,n<5->∀x:Nat,x<n->∀y:Nat,y<n-1->((DA ((n:Int)-1).toNat).map λ(k:Nat)=>((x:Int)+1+(0+(k:Int)+(y:Int))%((n:Int)-1))%(n:Int)).Nodup:=by decide +kernel
  rcases hm with rfl|rfl|rfl
  .show z 2 02 x (XD.mp a1) y<|XD.mp b1
  .show z 3 02 x (XD.mp a1) y<|XD.mp b1
  .show z 4 02 x (XD.mp a1) y<|XD.mp b1
 .intro o J;let(k,hk,rfl):=QA.mp J;show md hm a0 a1 (HC _<|01)<|RB _ m1
 .have e:=o6 (g:=gN 13) (f:=b2 (b2 (b2 (gR 4) (zC 1) yd) (b2 (b2 (gR 13) (λρ=>((zA (gV 0)<|zA (zC 9901)<|zA (b2 (gR 2) (zC 1) pO) zE) ρ).bind zK) yd) (b2 (gR 2) (zC 1) pO) QJ) yd) (gR 2) QJ) (ρ:=[!.int c,.v st,!.int m,.v gs,!.int one,.un,.un,.un,.un,.un,.un,.un,.un,.un]) (λ(i:Nat)=>D.int<|0+(i:Int)) (λk=>D.int<|(one+1+(0+(k:Int)+r)%(m-1))%m) (DA (m-1).toNat) λi _=>#[_,rfl,by exists 0,k2,m0,m1,EF,WG,KA,wB]
  rw[UA];show congrArg (QF D.lst) (XX (KP (n:=(m-1).toNat) (congrArg (λx=>some [D.int x])<|show m-1=((m-1).toNat:Nat) by omega)<|01) (by simp[rng];omega) e)
def tl(a b:Int)(l:L (Str×Int)):=(fC<|.tell a b l:D)
def El{e h a b:Int}{l:L (Str×Int)}:C8 e h (tl a b l)=l.length*pr e h a b:=by
 change(l.map _).length*_=_
 simp_all
def zU1{e h a x y z:Int}(h1:x≠y)(h2:x≠z)(h3:y≠z):pr e h a x+pr e h a y+pr e h a z<=1:=by
 have:=@wR e h a x a y (.inr h1);have:=@wR e h a x a z (.inr h2);have:=@wR e h a y a z (.inr h3);omega
def zR5{e h a x y:Int}(n1:a≠x)(z:x≠y):pr e h a x+pr e h a y+pr e h x y<=1:=by
 have:=@wR e h a x a y (.inr z);have:=@wR e h a x x y (.inl n1);have:=@wR e h a y x y (.inl n1);omega
def zXo{e h a x y z:Int}(n1:a≠x)(J:x≠y)(O:y≠z):pr e h a x+pr e h a y+pr e h x y+pr e h x z<=1:=by
 have:=@zR5 e h a x y n1 J;have:=@wR e h a x x z (.inl n1);have:=@wR e h a y x z (.inl n1);have:=@wR e h x y x z (.inr O);omega
def rG.tW{m:Int}{P:Int->Prop}{ds:L D}{a b:Int}{l:L (Str×Int)}(h1:0<=a/\a<m)(h2:0<=b/\b<m)(h3:a≠b)(hl:U8 1 l.length=true/\U8 l.length 3=true)(hr:SM (l.map (·.1)))(hw:∀w∈l.map (·.1),HH w)(hn:∀n∈l.map (·.2),P n)(h:rG m P ds):rG m P (tl a b l::ds):=
 rG.cons _ #[h1.1,h1.2,h2.1,h2.2,h3,JC hl.1,JC hl.2,hr,λ_ k=>hw _<|YB k,λ_ k=>hn _<|YB k] h
def Sm{l:L (Str×Int)}(k:U8 l.length 2=true):DI e h [tl a b l]<=2:=by
 rw[DI,El];show Nat.mul_le_mul (JC k)<|Tu e h a b
def i2{s a b Lv:Int}{P:Prop}(h:0<a+b/\a+b<Lv):(s<s+a+b/\s+a+b<s+Lv)\/P:=.inl 01
def i3{s a b c Lv:Int}{P:Prop}(h:0<a+b+c/\a+b+c<Lv):(s<s+a+b+c/\s+a+b+c<s+Lv)\/P:=.inl 01
def i4{s a b c d Lv:Int}{P:Prop}(h:0<a+b+c+d/\a+b+c+d<Lv):(s<s+a+b+c+d/\s+a+b+c+d<s+Lv)\/P:=.inl 01
def O2(hl:VP c m=false)(z:qG [!.int c,a1,!.int m,a3,a4,a5,a6,.un,.un,.un,.un,.un,.un]>.rt d):yM [!.int c,a1,!.int m,a3,a4,a5,a6,.un,.un,.un,.un,.un,.un]>.rt d:=by
 refine(zI ?_).trans z
 exists 0,IF,r2,r3,sL,tG,List.set,Sj,hl,EF,WG,KA,wB
def Y1(hl:VP c m=true)(e:qF [a1,a3,a4,a5,a6]>d):yM [!.int c,.v a1,!.int m,.v a3,.v a4,.v a5,.v a6,.un,.un,.un,.un,.un,.un]>.rt d:=by
 refine Fo ?_
 exists 0,IF,r2,r3,sL,tG,List.set,Sj,hl,e,EF,WG,KA,wB
def CP{a b c:Prop}(h:a/\b/\c):(a/\b)/\c:=#[#[h.1,h.2.1],h.2.2]
def TG(m st g0 g1 g2:Int)(ds:L D):=(rG m (λn=>(st<n/\n<st+(ds.length:Int))\/n=g0\/n=g1\/n=g2) ds/\∀e h,DI e h ds<=3:Prop)
def zU2{st Y g1 g2 one m:Int}{os:L Int}{ws:L Str}(rs:SM ws)(iU:∀w∈ws,HH w)(h1:0<=one/\one<m)(nd:os.Nodup)(LJ:∀o∈os,0<=o/\o<m/\one≠o)(lo:os.length=2\/os.length=3)(lw:ws.length=1\/ws.length=2\/ws.length=3):
  ∃ds,qF [.int st,.lst [.int Y,.int g1,.int g2],.int one,.lst<|os.map D.int,.lst<|ws.map D.str]>.lst ds/\(ds.length:Int)=1+(ws.length:Int)*(os.length:Int)/\TG m st Y g1 g2 ds:=by
 rcases lo with lo|lo
 case' inl=>
  let(J,O,rfl):=NU lo;let(q0,n0):=CP (LJ J<|by simp);let(q1,n1):=CP (LJ O<|by simp);have d0:J≠O:=‹nd›
 case' inr=>
  let(J,O,U,rfl):=gX lo;let(q0,n0):=CP (LJ J<|by simp);let(q1,n1):=CP (LJ O<|by simp);let(q2,n2):=CP (LJ U<|by simp);obtain⟨⟨d0,d1⟩,d2⟩:(J≠O/\J≠U)/\O≠U:=‹nd›
 all_goals rcases lw with lw|lw|lw
 case' inl.inl=>
  let(z,rfl):=JY lw;refine#[[tl one J [(z,st+1+0)],tl one O [(z,st+1+0+1)],tl J O [(z,Y)]],by kernel_rfl,rfl,?_,λe h=>?_]
 case' inl.inr.inl=>
  let(z,w1,rfl):=NU lw;refine#[[tl one J [(z,st+1+0),(w1,st+1+2)],tl one O [(z,st+1+0+1)],tl J O [(z,Y)],tl one O [(z,st+1+2+1)],tl J O [(w1,g1)]],by kernel_rfl,rfl,?_,λe h=>?_]
 case' inl.inr.inr=>
  let(z,w1,w2,rfl):=gX lw;refine#[[tl one J [(z,st+1+0),(w1,st+1+2),(w2,st+1+4)],tl one O [(z,st+1+0+1)],tl J O [(z,Y)],tl one O [(z,st+1+2+1)],tl J O [(w1,g1)],tl one O [(z,st+1+4+1)],tl J O [(w2,g2)]],by kernel_rfl,rfl,?_,λe h=>?_]
 case' inr.inl=>
  let(z,rfl):=JY lw;refine#[[tl one J [(z,st+1+0)],tl one O [(z,st+1+0+1)],tl J O [(z,st+1+0+1+1)],tl J U [(z,Y)]],by kernel_rfl,rfl,?_,λe h=>?_]
 case' inr.inr.inl=>
  let(z,w1,rfl):=NU lw;refine#[[tl one J [(z,st+1+0),(w1,st+1+3)],tl one O [(z,st+1+0+1)],tl J O [(z,st+1+0+1+1)],tl J U [(z,Y)],tl one O [(z,st+1+3+1)],tl J O [(w1,st+1+3+1+1)],tl J U [(w1,g1)]],by kernel_rfl,rfl,?_,λe h=>?_]
 case' inr.inr.inr=>
  let(z,w1,w2,rfl):=gX lw;refine#[[tl one J [(z,st+1+0),(w1,st+1+3),(w2,st+1+6)],tl one O [(z,st+1+0+1)],tl J O [(z,st+1+0+1+1)],tl J U [(z,Y)],tl one O [(z,st+1+3+1)],tl J O [(w1,st+1+3+1+1)],tl J U [(w1,g1)],tl one O [(z,st+1+6+1)],tl J O [(w2,st+1+6+1+1)],tl J U [(w2,g2)]],by kernel_rfl,rfl,?_,λe h=>?_]
 all_goals dsimp[sA,aE,DI,El]
 all_goals first|(have:=@zR5 e h _ _ _ n0 d0;omega)|(have:=@zXo e h _ _ _ _ n0 d0 d2;omega)|(repeat first|show rG.nil|refine rG.tW (by assumption) (by assumption) (by assumption) #[rfl,rfl] rs iU ?_ ?_|refine rG.t1 (by assumption) (by assumption) (by assumption) (iU _<|by repeat constructor) ?_ ?_|show eD _|refine PB.mpr #[?_,?_]|show .inr (.inl rfl)|show .inr (.inr<|.inl rfl)|show .inr (.inr<|.inr rfl)|show i2 02|show i3 02|show i4 02)
def zQt{c st U g1 g2 one m:Int}{os:L Int}{ws:L Str}(rs:SM ws)(iU:∀w∈ws,HH w)(h1:0<=one/\one<m)(nd:os.Nodup)(LJ:∀o∈os,0<=o/\o<m/\one≠o)(lo:(os.length:Int)=m-1)(hm:m=2\/m=3\/m=4)(lw:ws.length=1\/ws.length=2\/ws.length=3):
  ∃ds,qG [!.int c,!.int st,!.int m,!.lst [.int U,.int g1,.int g2],!.int one,!.lst (os.map D.int),!.lst (ws.map D.str),.un,.un,.un,.un,.un,.un]>(.rt<|.lst ds)/\(ds.length:Int)=1+(ws.length:Int)*(m-2)/\TG m st U g1 g2 ds:=by
 rcases hm with rfl|rfl|rfl
 case' inl=>
  let(J,rfl):=JY (l:=os) 01;let(q0,n0):=CP (LJ J<|by simp)
 case' inr.inl=>
  let(J,O,rfl):=NU (l:=os) 01;let(q0,n0):=CP (LJ J<|by simp);let(q1,n1):=CP (LJ O<|by simp);have d0:J≠O:=‹nd›
 case' inr.inr=>
  let(J,O,Y,rfl):=gX (l:=os) 01;let(q0,n0):=CP (LJ J<|by simp);let(q1,n1):=CP (LJ O<|by simp);let(q2,n2):=CP (LJ Y<|by simp);obtain⟨⟨d0,d1⟩,d2⟩:(J≠O/\J≠Y)/\O≠Y:=‹nd›
 all_goals rcases lw with lw|lw|lw
 case' inl.inl=>
  let(z,rfl):=JY lw;refine#[[tl one J [(z,U)]],by kernel_rfl,rfl,?_,λe h=>?_]
 case' inl.inr.inl=>
  let(z,w1,rfl):=NU lw;refine#[[tl one J [(z,U),(w1,g1)]],by kernel_rfl,rfl,?_,λe h=>?_]
 case' inl.inr.inr=>
  let(z,w1,w2,rfl):=gX lw;refine#[[tl one J [(z,U),(w1,g1),(w2,g2)]],by kernel_rfl,rfl,?_,λe h=>?_]
 case' inr.inl.inl=>
  let(z,rfl):=JY lw;refine#[[tl one J [(z,st+1+0+0)],tl one O [(z,U)]],by kernel_rfl,rfl,?_,λe h=>?_]
 case' inr.inl.inr.inl=>
  let(z,w1,rfl):=NU lw;refine#[[tl one J [(z,st+1+0+0),(w1,st+1+1+0)],tl one O [(z,U)],tl one O [(w1,g1)]],by kernel_rfl,rfl,?_,λe h=>?_]
 case' inr.inl.inr.inr=>
  let(z,w1,w2,rfl):=gX lw;refine#[[tl one J [(z,st+1+0+0),(w1,st+1+1+0),(w2,st+1+2+0)],tl one O [(z,U)],tl one O [(w1,g1)],tl one O [(w2,g2)]],by kernel_rfl,rfl,?_,λe h=>?_]
 case' inr.inr.inl=>
  let(z,rfl):=JY lw;refine#[[tl one J [(z,st+1+0+0)],tl one O [(z,st+1+0+1)],tl one Y [(z,U)]],by kernel_rfl,rfl,?_,λe h=>?_]
 case' inr.inr.inr.inl=>
  let(z,w1,rfl):=NU lw;refine#[[tl one J [(z,st+1+0+0),(w1,st+1+2+0)],tl one O [(z,st+1+0+1)],tl one Y [(z,U)],tl one O [(w1,st+1+2+1)],tl one Y [(w1,g1)]],by kernel_rfl,rfl,?_,λe h=>?_]
 case' inr.inr.inr.inr=>
  let(z,w1,w2,rfl):=gX lw;refine#[[tl one J [(z,st+1+0+0),(w1,st+1+2+0),(w2,st+1+4+0)],tl one O [(z,st+1+0+1)],tl one Y [(z,U)],tl one O [(w1,st+1+2+1)],tl one Y [(w1,g1)],tl one O [(w2,st+1+4+1)],tl one Y [(w2,g2)]],by kernel_rfl,rfl,?_,λe h=>?_]
 all_goals dsimp[sA,aE,DI,El]
 all_goals first|(have:=Tu e h one J;omega)|(have:=@wR e h one J one O (.inr d0);omega)|(have:=@zU1 e h one J O Y d0 d1 d2;omega)|(repeat first|show rG.nil|refine rG.tW (by assumption) (by assumption) (by assumption) #[rfl,rfl] rs iU ?_ ?_|refine rG.t1 (by assumption) (by assumption) (by assumption) (iU _<|by repeat constructor) ?_ ?_|show eD _|refine PB.mpr #[?_,?_]|show .inr (.inl rfl)|show .inr (.inr<|.inl rfl)|show .inr (.inr<|.inr rfl)|show i2 02|show i3 02|show i4 02)
def Qt(c st J g1 g2 m:Int)(hm:m=2\/m=3\/m=4):
  ∃ds,Ak [.int c,.int st,.int m,.lst [.int J,.int g1,.int g2]]>.lst ds/\(ds.length:Int)=1+(1+XE c 9949 3)*(m-2+b2i (VP c m))/\TG m st J g1 g2 ds:=by
 have x0:=yO c 9949 (m:=3) 02;have x1:=yP c 9949 (m:=3) 02;let(one,os,h1,ho,nd,z,run):=Kf c m hm;let(ws,lw,rs,U,wd):=V5 c;have l3:ws.length=1\/ws.length=2\/ws.length=3:=01
 rw[<- lw]
 cases hl:VP c m with
 |false=>
  let(ds,e,l,g):=zQt rs U h1 nd z ho hm l3
  show#[ds,run _ _ _<|wd _ _ _ _ _ _<|O2 hl e,by rw[l];simp[b2i],g]
 |true=>
  have m3:=by simp[VP]at hl;show hl.2
  let(ds,e,l,g):=zU2 rs U h1 nd z 01 l3;show#[ds,run _ _ _<|wd _ _ _ _ _ _<|Y1 hl e,by rw[l,show m-2+b2i _=os.length by simp[b2i];omega],g]
def fM(c m:Int):=(1+(1+XE c 9949 3)*(m-2+b2i (VP c m))+b2i (decide<|0<XE c 9931 3):Int)
def zXp(hm:m=2\/m=3\/m=4):Br [.int c,.int m]>(.int<|fM c m):=by
 have h1:=yO c 9949 (m:=3) 02;have h2:=yP c 9949 (m:=3) 02;have h3 : -18446744073709551616<1+XE c 9949 3:=01
 have z:1+XE c 9949 3<18446744073709551616:=01
 exists 0,Br,Np,Sj,LL,fM,b2i,h3,z,decide_eq_true_eq,EF,WG,KA,wB
def zXq(c J z m:Int)(hm:m=2\/m=3\/m=4):∃d,yN [.int c,.int J,.int m,.int z]>d/\rG m (λn=>n=J\/n=z) [d]/\∀e h,DI e h [d]<=2:=by
 let(W,O,w1,hW,Wp,ZV,U,hs):=M4<|c+1;have m0:0<m:=01
 have m1:0<m-1:=01
 have a0:=yO c 9871 m0;have a1:=yP c 9871 m0;have b0:=yO c 9859 m1;have b1:=yP c 9859 m1;generalize ho:XE c 9871 m=one at a0 a1;generalize hr:XE c 9859 (m-1)=r at b0 b1;let(Y,n0):=CP<|md hm a0 a1 b0 b1;have cp:c%2=0\/c%2=1:=01
 by_cases e:XE c 9931 3=1
 .refine#[tl one ((one+1+r)%m) [(O,z)],?_,rG.tW #[a0,a1] Y n0 #[rfl,rfl] (by simp) (PB.mpr #[ZV,eD _]) (PB.mpr #[.inr rfl,eD _]) rG.nil,λe h=>Sm rfl]
  exists 0,yN,qI,LL,m0,m1,hW,hs,ho,hr,e,beq_iff_eq,beq_self_eq_true,EF,WG,KA,wB
  rfl
 .have ok:∀w∈[O,w1],HH w:=PB.mpr #[ZV,PB.mpr #[U,eD _]];rcases cp with cp|cp
  case' inl=>refine#[tl one ((one+1+r)%m) [(O,J),(w1,z)],?_,rG.tW #[a0,a1] Y n0 #[rfl,rfl] Wp ok (PB.mpr #[.inl rfl,PB.mpr #[.inr rfl,eD _]]) rG.nil,λe h=>Sm rfl]
  case' inr=>refine#[tl one ((one+1+r)%m) [(O,z),(w1,J)],?_,rG.tW #[a0,a1] Y n0 #[rfl,rfl] Wp ok (PB.mpr #[.inr rfl,PB.mpr #[.inl rfl,eD _]]) rG.nil,λe h=>Sm rfl]
  all_goals
   exists 0,yN,qI,LL,m0,m1,hW,hs,ho,hr,beq_iff_eq,beq_self_eq_true,cp,(beq_eq_false_iff_ne.mpr e),EF,WG,KA,wB
   rfl
def R1:WG 3 0>0:=rfl
def Tv{S:L Int}(z:∀x∈S,0<=x/\x<=T)(hl:1<=S.length):∃g,EF (S.map D.int) (XE x 9907 (S.length:Int))>.int g/\0<=g/\g<=T:=by
 have hn:(0:Int)<S.length:=01
 have a0:=yO x 9907 hn;have a1:=yP x 9907 hn;obtain⟨i,hi⟩:∃i:Nat,XE x 9907 S.length=i:=#[(XE x 9907 S.length).toNat,01]
 rw[hi]at a1 ⊢;have cJ:i<S.length:=01
 show#[S[i],AR (by simp_all),z _<|MC _]
def Ot(hm:m=2\/m=3\/m=4)(h:(n:Int)=1+(1+XE c 9949 3)*(m-2+b2i (VP c m))):1<=(n:Int)/\(n:Int)<=10/\fM c m=(n:Int)+b2i (decide<|0<XE c 9931 3):=by
 have h1:=yO c 9949 (m:=3) 02;have h2:=yP c 9949 (m:=3) 02;refine#[?_,?_,by rw[h];rfl]
 all_goals
  rw[h];have cs:=Ue h1 h2;have bs:b2i (VP c m)=0\/b2i (VP c m)=1:=by unfold b2i;split<;>simp
  rcases hm with rfl|rfl|rfl<;>rcases cs with e|e|e<;>rcases bs with e' | e'<;>rw[e,e']<;>decide
def Qu(hm:m=2\/m=3\/m=4):1<=fM c m/\fM c m<=11:=by
 let(ds,_,l,_,_):=Qt c 0 0 0 0 m hm;let(a,b,e):=Ot hm l;have:b2i (decide<|0<XE c 9931 3)=0\/b2i (decide<|0<XE c 9931 3)=1:=by unfold b2i;split<;>simp
 omega
def Wu{T a Lv z g1 g2 n:Int}(a0:0<=a)(l:a+Lv<=T+1)(J:0<=z/\z<=T)(O:0<=g1/\g1<=T)(U:0<=g2/\g2<=T)(h:(a<n/\n<a+Lv)\/n=z\/n=g1\/n=g2):0<=n/\n<T+1:=by
 rcases h with h|rfl|rfl|rfl
 .show#[Q8 a0<|Int.le_of_lt h.1,Int.lt_of_lt_of_le h.2 l]
 .show#[J.1,KH J.2]
 .show#[O.1,KH O.2]
 .show#[U.1,KH U.2]
def zQu{m:Int}(hm:m=2\/m=3\/m=4){S:L Int}{T:Int}(O:∀x∈S,0<=x/\x<=T)(hl:1<=S.length){k:Nat}{a c:Int}(h1:S[k]?>a)(h2:S[k+1]?>a+fM c m){ds:L D}(hd:ds.length<=100)(s0 s2 s7 s8:Sl):
  ∃es eJ IL,yX [s0,!.int m,s2,.l<|S.map D.int,!.int c,.l ds,!.int k,s7,s8]>.nx [s0,!.int m,s2,.l<|S.map D.int,!.int c,.l<|ds++es,!.int k,eJ,IL] /\
   (es.length:Int)=fM c m/\rG m (λn=>0<=n/\n<T+1) es/\∀e h,DI e h es<=5:=by
 have hn:(0:Int)<(S.length:Int):=01
 have ha:=O a<|xA h1;have hb:=O _<|xA h2;let(J,p0,u0):=Tv (x:=c+0) O hl;let(g1,p1,u1):=Tv (x:=c+7) O hl;let(g2,p2,u2):=Tv (x:=c+14) O hl;have q1:EF (S.map D.int) (k:Int)>.int a:=AR (by simp[h1]);have q2:EF (S.map D.int) ((k:Int)+1)>(.int<|a+fM c m):=AR (i:=k+1) (by simp[h2]);by_cases t:0<XE c 9931 3
 .let(es,e1,l1,G1,Y):=Qt c a (a+fM c m-1) g1 g2 m hm;let(x,e2,G2,C2):=zXq c (a+fM c m-1) J m hm;let(y0,y1,y2):=Ot hm l1;rw[show b2i (decide<|0<XE c 9931 3)=1 by simp[b2i,t]]at y2;have z0:es.length<=10:=01
  have U:ds.length+es.length<=1000000:=JA (RL hd z0) 02;have z2:ds.length+es.length<16000000:=FI U 02;refine#[es++[x],!.lst [.int<|a+fM c m-1,.int g1,.int g2],!.int J,?_,by simp;omega,(G1.mono λn h=>Wu ha.1 01 #[01,01] u1 u2 h).app (G2.mono λn h=>by rcases h with rfl|rfl<;>omega),λe h=>?_]
  .exists 0,yX,LL,hn,p0,p1,p2,q1,q2,e1,e2,t,U,z2,FJ,R1,r3,QY,dB,KA,wB
  .rw[Ct];show RL (Y e h)<|C2 e h
 .let(es,e1,l1,G1,Y):=Qt c a J g1 g2 m hm;let(y0,y1,y2):=Ot hm l1;rw[show b2i (decide<|0<XE c 9931 3)=0 by simp[b2i,t]]at y2;have z0:es.length<=10:=01
  have U:ds.length+es.length<=1000000:=JA (RL hd z0) 02;refine#[es,!.lst [.int J,.int g1,.int g2],!.int J,?_,01,G1.mono λn h=>Wu ha.1 01 u0 u1 u2 h,λe h=>JA (Y e h)<|02]
  exists 0,yX,LL,hn,p0,p1,p2,q1,q2,e1,t,U,FJ,R1,r3,QY,KA,wB
noncomputable def DC(m a:Int):L Int->L Int
 | []=>[a]
 |c::cs=>a::DC m (a+fM c m) cs
theorem zNw(m:Int):∀(cs:L Int)(a:Int),(DC m a cs).length=cs.length+1
 | [],_=>rfl
 |c::cs,a=>by rw[DC,sA,zNw m cs,sA]
theorem zR6(hm:m=2\/m=3\/m=4):∀(cs:L Int)(a x:Int),x∈DC m a cs->a<=x/\x<=a+11*(cs.length:Int)
 | [],a,x,h=>by simp[DC]at h;subst h;simp
 |c::cs,a,x,h=>by
  have sz:=Qu (c:=c) hm;rcases oA.mp h with rfl|h
  .omega
  .have:=zR6 hm cs _ x h;simp;omega
noncomputable def nU(m a:Int):L Int->Int
 | []=>a
 |c::cs=>nU m (a+fM c m) cs
theorem zR7(hm:m=2\/m=3\/m=4):∀(cs:L Int)(a:Int),a+cs.length<=nU m a cs/\nU m a cs<=a+11*(cs.length:Int)/\∀x∈DC m a cs,x<=nU m a cs
 | [],a=>by simp[nU,DC]
 |c::cs,a=>by
  have sz:=Qu (c:=c) hm;let(z,i2,i3):=zR7 hm cs<|a+fM c m;dsimp[nU,sA];refine#[01,01,λx hx=>?_];rcases oA.mp hx with rfl|hx
  .omega
  .show i3 x hx
theorem zKL(hm:m=2\/m=3\/m=4):∀(cs pre:L Int)(a:Int)(s0 s2 s4 s5 s6 s7 s8:Sl),pre.length+cs.length<=100->∃J,zJ (gN 4) yC (cs.map D.int) [s0,!.int m,s2,.l<|(pre++[a]).map D.int,s4,s5,s6,s7,s8]>.nx [s0,!.int m,s2,.l<|(pre++DC m a cs).map D.int,J,s5,s6,s7,s8]
 | [],pre,a,s0,s2,s4,s5,s6,s7,s8,_=>#[s4,rfl]
 |c::cs,pre,a,s0,s2,s4,s5,s6,s7,s8,hl=>by
  rw[sA]at hl;let(J,ih):=zKL hm cs (pre++[a]) _ s0 s2 _ s5 s6 s7 s8 (by simp;omega);refine#[J,?_];have z:=zXp (c:=c) hm;have O:=zNt (pre.map D.int)<|D.int a;have U:pre.length+1<16000000:=01
  have st:yC [s0,!.int m,s2,.l<|(pre++[a]).map D.int,!.int c,s5,s6,s7,s8]>.nx [s0,!.int m,s2,.l<|(pre++[a]++[a+fM c m]).map D.int,!.int c,s5,s6,s7,s8]:=by
   exists 0,yC,uA,O,z,U,KA,wB
  have go:zJ (gN 4) yC (D.int c::cs.map D.int) [s0,!.int m,s2,.l<|(pre++[a]).map D.int,s4,s5,s6,s7,s8]=zJ (gN 4) yC (cs.map D.int) [s0,!.int m,s2,.l<|(pre++[a]++[a+fM c m]).map D.int,!.int c,s5,s6,s7,s8]:=by
   rw[zJ,show gN 4 _ _>[s0,.v _,s2,.l _,.v _,s5,s6,s7,s8] from rfl,dA,st];rfl
  rw[kA,go,ih,dB];rfl
theorem zR8{m:Int}(hm:m=2\/m=3\/m=4){S:L Int}{T:Int}(U:∀x∈S,0<=x/\x<=T)(hl:1<=S.length):∀(cs:L Int)(k:Nat)(a:Int)(ds:L D)(s0 s2 s4 s6 s7 s8:Sl),S.drop k=DC m a cs->(ds.length:Int)=a->ds.length+11*cs.length<=100->rG m (λn=>0<=n/\n<T+1) ds ->
  ∃z Y OF O J,zJ (gT 2<|FE (gN 6)<|FE (gN 4) MF) yX (IQ k<|cs.map D.int) [s0,!.int m,s2,.l<|S.map D.int,s4,.l ds,s6,s7,s8]>.nx [s0,!.int m,s2,.l<|S.map D.int,Y,.l z,OF,O,J] /\
   (z.length:Int)=nU m a cs/\rG m (λn=>0<=n/\n<T+1) z/\∀e h,DI e h z<=DI e h ds+5*cs.length
 | [],k,a,ds,s0,s2,s4,s6,s7,s8,_,hd,_,hG=>#[ds,s4,s6,s7,s8,rfl,hd,hG,λ_ _=>wA _]
 |c::cs,k,a,ds,s0,s2,s4,s6,s7,s8,hk,hd,hb,hG=>by
  have sz:=Qu (c:=c) hm;rw[sA]at hb
  have h1:=by
   have:=congrArg (λl=>l[0]?) hk;simpa[DC] using this
  have h2:S[k+1]?>a+fM c m:=by
   have:=congrArg (λl=>l[1]?) hk;simp at this;rw[this];cases cs<;>rfl
  have kS:S.drop (k+1)=DC m (a+fM c m) cs:=by
   rw[<- List.drop_drop,hk];rfl
  let(es,O,J,e1,e2,e3,e4):=zQu hm U hl h1 h2 (ds:=ds) 01 s0 s2 s7 s8;let(z,t4,t6,t7,t8,i1,i2,i3,i4):=zR8 hm U hl cs _ _ _ s0 s2 _ _ O J kS (by simp;omega) (by simp;omega)<|hG.app e3;refine#[z,t4,t6,t7,t8,?_,i2,i3,λe h=>?_]
  .rw[kA,IQ,zJ,show gT 2 _ _ _>[s0,.v _,s2,.l _,.v _,.l ds,.v _,s7,s8] from rfl,dA,e1];show i1
  .have a1:=i4 e h;have a2:=e4 e h;rw[Ct]at a1;rw[sA];omega
theorem jw(ns:L Int)(ρ:XA)(z:ρ=[!.lst (ns.map D.int),s1,.un,.un,.un,.un,.un,.un,.un,.un]):∀(is:L Nat),zF (gN 9) (λ_=>some true) (λρ=>((zA (gV 0)<|zA (b2 (zC 1) (gR 9) yd) zE) ρ).bind zi) (is.map λ(i:Nat)=>D.int<|0+(i:Int)) ρ>(is.map λi=>ns.getD (1+i) 0).map D.int
 | []=>rfl
 |i::is=>by
  have ih:=jw ns ρ z is;subst z;have k:=Si (ns:=ns) (k:=1+(0+i)) 01;rw[show(1+(0+(i:Int))).toNat=1+i by omega,lD]at k;rw[kA,zF,ih]
  exists k,EF,WG,KA,wB,GD,dG,gN,gT,FE,MF,zQ,zJ,NF
def zQv(ns:L Int):∃m ds,(2<=m/\m<=4)/\Be [.lst<|ns.map D.int]>.tup [.int m,.tup<|ds++[.tup [.str "end"]]]/\1<=ds.length/\ds.length<=39/\rG m (λn=>0<=n/\n<(ds.length:Int)+1) ds/\∀e h,DI e h ds<=15:=by
 have xa:=yO (ns.getD 0 0) 9973 (m:=3) 02;have xb:=yP (ns.getD 0 0) 9973 (m:=3) 02;have xc:=yO (ns.getD 0 0) 9967 (m:=3) 02;have xd:=yP (ns.getD 0 0) 9967 (m:=3) 02;have k0:zi [.lst<|ns.map D.int,.int 0]>(.int<|ns.getD 0 0):=Si 02;have hm:2+XE (ns.getD 0 0) 9973 3=2\/2+XE (ns.getD 0 0) 9973 3=3\/2+XE (ns.getD 0 0) 9973 3=4:=by rcases Ue xa xb with e|e|e<;>rw[e]<;>decide
 obtain⟨r,hr⟩:∃r:Nat,1+XE (ns.getD 0 0) 9967 3=(r:Int):=#[(1+XE (ns.getD 0 0) 9967 3).toNat,01]
 have J:1<=r/\r<=3:=01
 generalize em:2+XE (ns.getD 0 0) 9973 3=m at hm;have cl:=jw (s1:=!.int m) ns _ rfl<|DA r;generalize O:((DA r).map λi=>ns.getD (1+i) 0)=cs at cl;have lc:cs.length=r:=by rw[<- O];simp
 let(t1,t2,t3):=zR7 hm cs 0;have ls:=zNw m cs 0;have hS:∀x∈DC m 0 cs,0<=x/\x<=nU m 0 cs:=λx hx=>#[(zR6 hm cs 0 x hx).1,t3 x hx]
 let(s4,l1):=zKL hm cs [] 0 (!.lst (ns.map D.int)) (!.lst (cs.map D.int)) .un .un .un .un .un (by simp;omega);let(ds,u4,u6,u7,u8,l2,d1,d2,Y):=zR8 hm hS 01 cs 0 0 [] (!.lst (ns.map D.int)) (!.lst (cs.map D.int)) s4 .un .un .un rfl rfl (by simp;omega) rG.nil;have hl:ds.length<=33:=01
 have z1:ds.length+1<=1000000:=JA (JG hl) 02;have z2:r<=1000000:=JA J.2 02;refine#[m,ds,01,?_,01,01,d2.mono λn h=>01,λe h=>by have:=Y e h;dsimp[DI]at this;omega];rw[WB,WB,kA,nC]at l1;have rl:(rng 0 r).length<=1000000:=by simp[rng];omega
 change(Bc [!.lst (ns.map D.int),.un,.un,.un,.un,.un,.un,.un,.un]).bind _=_;unfold Bc;rw[zI (ρ':=[!.lst (ns.map D.int),!.int m,.un,.un,.un,.un,.un,.un,.un]) ?g1,zI (ρ':=[!.lst (ns.map D.int),!.int m,!.lst (cs.map D.int),.un,.un,.un,.un,.un,.un]) ?g2,zI (ρ':=[!.lst (ns.map D.int),!.int m,!.lst (cs.map D.int),.l [.int 0],.un,.un,.un,.un,.un]) rfl,zI<|(sFor_eq (ds:=cs.map D.int) rfl).trans l1,zI (ρ':=[!.lst (ns.map D.int),!.int m,!.lst (cs.map D.int),.l<|(DC m 0 cs).map D.int,s4,.l [],.un,.un,.un]) rfl,zI<|(sFor_eq (ds:=IQ 0<|cs.map D.int) rfl).trans l2,Di (d:=.tup [.int m,.tup<|ds++[.tup [.str "end"]]]) ?g3]
 .rfl
 case g1=>
  refine(zx (d:=.int m) ?_).trans rfl
  exists 0,k0,LL,em,EF,WG,KA,wB
 case g2=>
  refine(zx (d:=.lst<|cs.map D.int) ?_).trans rfl
  have U:WH (zA (b2 (zC 1) (λρ=>((zA (λρ=>((zA (gV 0)<|zA (zC 0) zE) ρ).bind zi)<|zA (zC 9967)<|zA (zC 3) zE) ρ).bind zK) yd) zE) [!.lst (ns.map D.int),!.int m,.un,.un,.un,.un,.un,.un,.un]>rng 0 r:=by
   refine KP ?_ z2;rw[<- hr]
   exists 0,k0,LL,EF,WG,KA,wB
  unfold zB;rw[U,dA,if_pos rl];show congrArg (QF D.lst) cl
 case g3=>
  exists 0,z1,EF,WG,KA,wB
noncomputable abbrev Yr:L Str:=["place"]
def Ys:=((sq (DE (bB<|b2 (b2 (gR 0) (zC 0) KA) (λ_=>some<|D.str "end") wB) (qc<|λρ=>(zE ρ).map D.tup)<|λρ=>some<|Out.nx ρ)<|qc<|b2 (gR 0) (zC 3) KA):AB)
def Ax(ds:L D):=(BI Yr Ys ds:Op D)
def zU4{g:D->XA->Op XA}{F:AB}(h:g d ρ>RE)(k:F RE>.rt r):zJ g F (d::ds) ρ>.rt r:=by dsimp[zJ,h,k,dA]
structure zj(m:Int)(ps:List Pl):Prop where
 m0:2<=m
 m1:m<=4
 n0:1<=ps.length
 n1:ps.length<=40
 ok:∀p∈ps,cO m (λn=>0<=n/\n<(ps.length:Int)) p
def EB(m:Int)(ps:L Pl):=(.tup [.int m,.tup<|ps.map fC]:D)
def zQw(ns:L Int):∃m ps,Be [.lst<|ns.map D.int]>EB m ps/\zj m ps/\(∃rows,ps=rows++[.fin]/\1<=rows.length/\∀p∈rows,p≠.fin)/\∀e h,DI e h (ps.map fC)<=15:=by
 let(m,ds,hm,e,h1,h2,(ps,rfl,h3),z):=zQv ns;rw[lA]at h1 h2 h3;refine#[m,ps++[.fin],by rw[e];simp[EB,fC],#[hm.1,hm.2,by simp,by simp;omega,λp hp=>?_],#[ps,rfl,h1,λp hp=>(h3 p hp).2],λe h=>by rw[uA,Ct];show z e h];rw[OA];rcases pA.mp hp with hp|hp
 .show(h3 p hp).1
 .simp at hp;subst hp;trivial
noncomputable def cG:Pl->L (Str×Int)
 |.fin=>[]
 |.tell _ _ ch=>ch
def zNx:((iA "tell" : Str)==iA "end")=false:=rfl
def xf(p:Pl):Ax [fC p]>(.tup<|(cG p).map ZD):=by
 cases p with
 |fin=>rfl
 |tell a b ch=>rfl
def i8{ps:L Pl}{n:Int}(h0:0<=n)(h1:n<(ps.length:Int)):∃p,p∈ps/\ps[n.toNat]?>p/\EF (ps.map fC) n>fC p:=by
 have h2:=01
 refine#[ps[n.toNat],MC _,by simp[h2],?_];simp[EF,WG,h0,h1]
def cO.next{P:Int->Prop}(h:cO m P p){q:Str×Int}(hq:q∈cG p):P q.2:=by
 cases p with
 |fin=>simp[cG]at hq
 |tell a b ch=>show h.nx q hq
def cO.few{P:Int->Prop}(h:cO m P p):(cG p).length<=3:=by
 cases p with
 |fin=>simp[cG]
 |tell a b ch=>show h.l1
theorem zS{O:Type}{g:D->XA->Op XA}{p:QE}{f:TB}{emb:O->D}(z:O->Bool)(out:O->D):
  ∀(xs:L O),(∀x∈xs,∃J,g (emb x) ρ>J/\p J>z x/\(z x=true->f J>out x))->zF g p f (xs.map emb) ρ>(xs.filter z).map out
 | [],_=>rfl
 |x::xs,h=>by
  have ih:=zS _ _ xs λy hy=>h y<|cA _ hy
  let(J,e1,U,e3):=h x eA;rw[AG];change(g _ ρ).bind _=_;rw[e1,dA,U,dA]
  cases t:z x with
  |true=>rw[e3 t,ih];rfl
  |false=>simp_all
def zU5{z:Type}(f:z->D)(xs:L z)(lo hi:Op Int):∃ys:L z,zQ (xs.map f) lo hi=ys.map f/\ys.length<=xs.length/\∀y∈ys,y∈xs:=by
 refine#[(xs.drop<|HT.YE (xs.map f).length 0 lo).take<|HT.YE (xs.map f).length (xs.map f).length hi-HT.YE (xs.map f).length 0 lo,?_,?_,λy hy=>List.mem_of_mem_drop<|AO hy]
 .dsimp[List.map_take,List.map_drop]
 .show((UQ _ _).trans<|List.drop_sublist _ _).length_le
def Sn(p:Pl):GD (fC p) (.tup [.str "end"])=(match p with | .fin=>true|_=>false):=by
 cases p with
 |fin=>rfl
 |tell a b ch=>rfl
noncomputable abbrev Yt:L Str:=["place","dancer"]
def Mm:=((qc<|iM (b2 (b2 (gR 0) (zC 0) KA) (λ_=>some<|D.str "tell") wB)<|b2 (gV 1) ((zA (b2 (gR 0) (zC 1) KA)<|zA (b2 (gR 0) (zC 2) KA) zE)<&>D.tup) JI):AB)
def qu(ds:L D):=(BI Yt Mm ds:Op D)
def VX:=((bB<|b2 (b1 (gR 5) pH) (zC 0) fR):QE)
def qv:=((sq (OQ 6 5)<|sq (DE (Gv false 4<|gV 6) (λρ=>some<|Out.ct ρ)<|λρ=>some<|Out.nx ρ)<|sq (Tc 4 (gV 6)<|λ_=>some<|D.bl true)<|DE (ZO<|lL<|(zA (b2 (gR 3) (gR 6) KA)<|zA (gV 1) zE)>>=qu) (cP 5<|zB 1 (iT<|(zA (b2 (gR 3) (gR 6) KA) zE)>>=Ax) (gN 7) (λ_=>some true)<|b2 (gR 7) (zC 1) KA)<|λρ=>some<|Out.nx ρ):AB)
noncomputable abbrev zN0:L Str:=["dance","dancer","some","places","come_to","waiting","number"]
def Qv:=((sq (zw 3<|b2 (gR 0) (zC 1) KA)<|sq (Tb 4)<|sq (yJ 5<|tP (gR 2) US)<|sq (HW 300 VX qv)<|qc<|b1 ((Tr 4)<&>D.lst) OH):AB)
def GP(ds:L D):=(BI zN0 Qv ds:Op D)
def qo:=((qc<|(zA (gV 2)<|zA (b2 (b2 (GJ (gR 3) (λ_=>some none) (oI<|gV 4) aK) ((zA (gV 5) zE)<&>D.tup) yd) (GJ (gR 3) (oI<|b2 (gR 4) (zC 1) yd) (λ_=>some none) aK) yd) zE)<&>D.tup):AB)
def Yk:=((sq (DE (bB<|b2 (gR 6) (zC 4) wB) (zw 5<|(zA (λ_=>some<|D.str "end") zE)<&>D.tup)<|λρ=>some<|Out.nx ρ) qo):AB)
def Mj:=((sq (DE (bB<|b2 (gR 6) (zC 3) wB) (zw 5<|b2 (GJ (gR 5) (λ_=>some none) (oI<|zC 3) aK) ((zA (GJ (b2 (gR 5) (zC 3) KA) (oI<|b1 (zC 1) VW) (λ_=>some none) aK) zE)<&>D.tup) yd)<|λρ=>some<|Out.nx ρ) Yk):AB)
def Ml:=((sq (DE (bB<|b2 (gR 6) (zC 2) wB) (zw 5<|b2 (GJ (gR 5) (λ_=>some none) (oI<|zC 3) aK) ((zA (b2 (GJ (b2 (gR 5) (zC 3) KA) (λ_=>some none) (oI<|b1 (zC 1) VW) aK) ((zA ((zA (b2 (GJ (gR 7) (λ_=>some none) (oI<|zC 2) aK) (λ_=>some<|D.str "z") yd)<|zA (gV 8) zE)<&>D.tup) zE)<&>D.tup) yd) zE)<&>D.tup) yd)<|λρ=>some<|Out.nx ρ) Mj):AB)
def Yl:=((sq (DE (bB<|b2 (gR 6) (zC 1) wB) (zw 5<|(zA (λ_=>some<|D.str "tell")<|zA (b2 (gR 5) (zC 2) KA)<|zA (b2 (gR 5) (zC 1) KA)<|zA (b2 (gR 5) (zC 3) KA) zE)<&>D.tup)<|λρ=>some<|Out.nx ρ) Ml):AB)
def yf:=((sq (DE (bB<|b2 (gR 6) (zC 0) wB) (zw 5<|b2 (GJ (gR 5) (λ_=>some none) (oI<|zC 3) aK) ((zA (b2 (GJ (b2 (gR 5) (zC 3) KA) (λ_=>some none) (oI<|b1 (zC 1) VW) aK) ((zA ((zA (gV 7)<|zA ((zA (gV 1)<|zA (zC 9833)<|zA (b1 (gR 3) pH) zE)>>=zK) zE)<&>D.tup) zE)<&>D.tup) yd) zE)<&>D.tup) yd)<|λρ=>some<|Out.nx ρ) Yl):AB)
def yg:=((sq (zw 6<|(zA (gV 1)<|zA (zC 9839)<|zA (zC 5) zE)>>=zK)<|sq (n8 (b2 (b2 (gR 5) (zC 3) KA) (b1 (zC 1) VW) KA)<|gT 2<|FE (gN 7)<|FE (gN 8) MF) yf):AB)
noncomputable abbrev Zj:L Str:=["_law_dance_here","_law_cell_here","_law_many","_law_places","_law_at","_law_place","_law_kind","_law_word_here","_law_after"]
def Ay:=((sq (n8 (gV 0)<|gT 2<|FE (gN 2)<|FE (gN 3) MF)<|sq (zw 4<|(zA (gV 1)<|zA (zC 9857)<|zA (b1 (gR 3) pH) zE)>>=zK)<|sq (zw 5<|b2 (gR 3) (gR 4) KA)<|sq (DE (bB<|b2 (gR 5) ((zA (λ_=>some<|D.str "end") zE)<&>D.tup) wB) (zw 5<|(zA (λ_=>some<|D.str "tell")<|zA (b2 (gR 1) (gR 2) QJ)<|zA (b2 (b2 (gR 1) (zC 1) yd) (gR 2) QJ)<|zA ((zA ((zA (λ_=>some<|D.str "z")<|zA ((zA (gV 1)<|zA (zC 9851)<|zA (b1 (gR 3) pH) zE)>>=zK) zE)<&>D.tup) zE)<&>D.tup) zE)<&>D.tup)<|λρ=>some<|Out.nx ρ) yg):AB)
def qw(ds:L D):=(BI Zj Ay ds:Op D)
def yY:=((lL<|gR 4):QE)
def zh:=((sq (OQ 5 4)<|DE (bB<|b2 (gV 5) (gR 3) EK) (sq (vJ 3<|gV 5)<|sq (zw 6<|b2 (b2 (gR 0) (zC 1) KA) (gR 5) KA)<|DE (QS (bB<|b2 (b2 (gR 6) (zC 0) KA) (λ_=>some<|D.str "tell") wB)<|QS (bB<|b2 (gR 1) (b2 (gR 6) (zC 1) KA) NF)<|bB<|b2 (gR 1) (b2 (gR 6) (zC 2) KA) NF) (yJ 4<|JT (gR 4) ((zB 1 (iT<|b2 (gR 6) (zC 3) KA) (gN 7) (λ_=>some true)<|b2 (gR 7) (zC 1) KA)<&>D.lst) zR)<|λρ=>some<|Out.nx ρ)<|λρ=>some<|Out.nx ρ):AB)
noncomputable abbrev Zy:L Str:=["_law_dance_here","_law_dancer","_law_some","_law_found","_law_left","_law_at","_law_place"]
def Bf:=((sq (yJ 3 zE)<|sq (yJ 4<|tP (gR 2) US)<|sq (HW 300 yY zh)<|qc<|b1 ((tP (gR 3) uR)<&>D.lst) OH):AB)
def yt(ds:L D):=(BI Zy Bf ds:Op D)
def zQx(l:L D)(x:D):zQ (l++[x]) none (some (-1))=l:=by
 have e:(-1+((l.length:Int)+1)).toNat=l.length:=01
 simp[HT.YE,e]
def zQy(l:L D)(x:D):zQ (l++[x]) (some (-1)) none=[x]:=by
 have e:(-1+((l.length:Int)+1)).toNat=l.length:=01
 simp[HT.YE,e]
def zQz(l:L D)(k:Nat)(h:k<=l.length):zQ l none (some (k:Int))=l.take k:=by
 have:¬ ((k:Int)<0):=01
 simp[HT.YE,this,WU h]
def zQ0(l:L D)(k:Nat)(h:k<=l.length):zQ l (some (k:Int)) none=l.drop k:=by
 have:¬ ((k:Int)<0):=01
 dsimp[zQ,HT.YE,this,if_false,bD,WU h];rw[bN<|by simp]
def zN1{z:Type}{l:L z}(h:1<=l.length):∃aL x,l=aL++[x]:=by
 have hn:l≠[]:=by intro e;simp_all
 show#[l.dropLast,l.getLast hn,(List.dropLast_concat_getLast hn).symm]
def zR9(w:Str):Txt.slice w none (some 2)=#[(w.cps.toList.take 2).toArray]:=by
 obtain⟨⟨l⟩⟩:=w
 match l with
 | []=>rfl
 |[a]=>
  have e:WC none (some 2) 1 1=[0]:=rfl
  simp[Txt.slice,lE,e]
 |a::b::l=>show jv _ 2 (by simp)
noncomputable def wz(w:Str):Str:=#[(w.cps.toList.take 2++[122]).toArray]
def Tw:(iA "z")=#[[122].toArray]:=rfl
def zXr(h:HH w):HH (wz w):=by
 let(h1,h2,h3):=h;obtain⟨⟨l⟩⟩:=w;refine#[by simp[wz,lE],by simp[wz,lE];omega,λx hx=>?_];simp[wz]at hx;rcases hx with hx|rfl
 .show h3 x<|AO hx
 .decide
def okz:HH (iA "z"):=by
 rw[Tw];show#[02,02,λx hx=>by simp at hx;subst hx;decide]
def W5(h:HH w)(k:Lt v w):Lt v (wz w):=by
 let(h1,h2,h3):=h;obtain⟨⟨l⟩⟩:=w;dsimp[lE,IA]at h1 h2;simp at h3;by_cases e:#[#[l]]=wz #[#[l]]
 .rw[<- e];show k
 .refine k.trans<|Lt.total ?_ e;rw[Lt.def]
  match l with
  | []=>simp at h1
  | [a]=>simp[wz]
  | [a,b]=>simp[wz]
  |[a,b,c]=>
   have hc:=(h3 c<|by simp).2;dsimp[wz,RH,VU,MB,WB];intro q;dsimp[List.cons_lt_cons_iff,RC,false_or,true_and]at q
   grind
  |a::b::c::d::l=>simp at h2
def zj.set{ps:L Pl}(h:zj m ps)(k:Nat)(p:Pl)(hp:cO m (λn=>0<=n/\n<(ps.length:Int)) p):zj m (ps.set k p):=by
 refine#[h.m0,h.m1,‹h.n0›,‹h.n1›,λq hq=>?_];rw[cH];rcases List.mem_or_eq_of_mem_set hq with hq|rfl
 .show h.ok q hq
 .show hp
def zXs(ps:L Pl)(k:Nat)(p:Pl)(h:k<ps.length):(ps.map fC).take k++([fC p]++(ps.map fC).drop (k+1))=(ps.set k p).map fC:=by
 rw[List.set_eq_take_append_cons_drop,if_pos h];simp
def zJJ(h:SM (l++[w]))(k:∀v,Lt v w->Lt v w'):SM (l++[w']):=by
 rw[SM,List.pairwise_append]at h ⊢;refine#[h.1,by simp,λa ha b hb=>?_];simp at hb;subst hb;show k a (h.2.2 a ha w<|by simp)
def wY{c:QE}{F F':AB}(h:c ρ>true)(k:F ρ=r):DE c F F' ρ=r:=by
 rw[<- k];dsimp[DE,h,dA,if_true]
def Tx{l r:L D}(h:l.length+r.length<=1000000):yd (.tup l) (.tup r)>(.tup<|l++r):=if_pos h
def zXt{l r:Str}(h:l.length+r.length<=1000000):yd (.str l) (.str r)>(.str<|l++r):=if_pos h
def zXu{A:TB}(h:A ρ>a):((zA A zE) ρ).map D.tup>.tup [a]:=by dsimp[zA,h,dA,VA]
def Tz{A B:TB}(h:A ρ>a)(k:B ρ>b):((zA A<|zA B zE) ρ).map D.tup>.tup [a,b]:=by dsimp[zA,h,k,dA,VA]
def zXv{f:TB}{g:D->XA->Op XA}(h:f ρ>d)(k:g d ρ>ρ'):n8 f g ρ>.nx ρ':=by dsimp[n8,h,k,dA,VA]
def zXw{ps:L Pl}(h:zj m ps)(J:at'<ps.length)(p:Pl)(hd:fC p=d):
  qo [s0,s1,!.int m,!.tup (ps.map fC),!.int at',.v d,s6,s7,s8]>(.rt<|EB m<|ps.set at' p):=by
 subst hd;have O:=h.n1;have l1:((ps.map fC).take at').length<=40:=by simp;omega
 have U:((ps.map fC).drop<|at'+1).length<=40:=by simp;omega
 have e:=Tz (ρ:=[s0,s1,!.int m,!.tup (ps.map fC),!.int at',.v _,s6,s7,s8]) (A:=λρ=>NQ ρ 2) rfl (qd (qd (A:=GJ (gR 3) (λ_=>some none) (oI<|gV 4) aK) (B:=λρ=>((zA (gV 5) zE) ρ).map _)
  (Eq.trans (by kernel_rfl)<|congrArg (λz=>some _)<|zQz (ps.map fC) at' (by simp;omega)) rfl (Tx (r:=[fC p]) (by dsimp[cC];omega)))
  (B:=GJ (gR 3) (oI<|b2 (gR 4) (zC 1) yd) (λ_=>some none) aK) (Eq.trans (by kernel_rfl)<|congrArg (λz=>some _)<|zQ0 (ps.map fC) (at'+1) (by simp;omega)) (Tx (by dsimp[OA,cC];omega)))
 rw[dB,zXs ps _ p J]at e;show congrArg _ e
def Rx{E:TB}(z:E [s0,s1,s2,s3,s4,!.tup [k,a,b,x],s6,s7,s8]>e):
  zw 5 (b2 (GJ (gR 5) (λ_=>some none) (oI<|λ_=>some<|.int 3) aK) (λρ=>((zA E zE) ρ).map .tup) yd) [s0,s1,s2,s3,s4,!.tup [k,a,b,x],s6,s7,s8]>.nx [s0,s1,s2,s3,s4,!.tup [k,a,b,e],s6,s7,s8]:=
 zx (qd (a:=.tup [k,a,b]) (rfl) (zXu z)<|rfl)
def zSA{l:L D}{B:TB}(hl:l.length<=3)(h:B [s0,s1,s2,s3,s4,!.tup [k,a,b,.tup<|l++[x]],s6,s7,s8]>y):
  b2 (GJ (b2 (gR 5) (zC 3) KA) (λ_=>some none) (oI<|b1 (zC 1) VW) aK) (λρ=>((zA B zE) ρ).map D.tup) yd [s0,s1,s2,s3,s4,!.tup [k,a,b,.tup<|l++[x]],s6,s7,s8]>(.tup<|l++[y]):=
 qd (Eq.trans (rfl)<|congrArg (λz=>some _)<|zQx l x) (zXu h) (Tx<|by grind)
def sk2(s0 s1 s2 s3 s4 s5 s7 s8:Sl):yf [s0,s1,s2,s3,s4,s5,!.int 2,s7,s8]=Ml [s0,s1,s2,s3,s4,s5,!.int 2,s7,s8]:=by kernel_rfl
def sk3(s0 s1 s2 s3 s4 s5 s7 s8:Sl):yf [s0,s1,s2,s3,s4,s5,!.int 3,s7,s8]=Mj [s0,s1,s2,s3,s4,s5,!.int 3,s7,s8]:=rfl
def zN3{ps:L Pl}(h:zj m ps)(k:X9 m (λn=>0<=n/\n<(ps.length:Int)) a b (aL++[(w,x)]))(at':Nat)(O:at'<ps.length):
  ∃p,cO m (λn=>0<=n/\n<(ps.length:Int)) p/\yg [!EB m ps,!.int c,!.int m,!.tup (ps.map fC),!.int at',.v<|fC<|.tell a b<|aL++[(w,x)],.un,.un,.un]>(.rt<|EB m<|ps.set at' p):=by
 have hn:(0:Int)<(ps.length:Int):=01
 have y1:0<=XE c 9833 (ps.length:Int)/\XE c 9833 (ps.length:Int)<(ps.length:Int):=#[yO _ _ hn,yP _ _ hn]
 have hw:HH w:=k.wd (w,x) (by simp);have ki:∀q∈aL,q∈aL++[(w,x)]:=λq hq=>HB _ hq
 have l1:=k.l1;have rs:=k.rs;dsimp[OA,cC,uA,kA,nC]at l1 rs;have J:(aL.map ZD).length<=3:=by simp;omega
 have hl:w.length<=1000000:=by have:=hw.2.1;omega
 have U:(w.cps.toList.take 2).length<=2:=List.length_take_le 2 _;have e3:∀y,(aL++[y]).map ZD=aL.map ZD++[ZD y]:=λy=>by simp
 have hp:∀y,fC (.tell a b<|aL++[y])=.tup [.str "tell",.int a,.int b,.tup<|aL.map ZD++[ZD y]]:=λy=>by rw[<- e3];rfl
 have st:yg [!EB m ps,!.int c,!.int m,!.tup (ps.map fC),!.int at',.v<|fC<|.tell a b<|aL++[(w,x)],.un,.un,.un]=yf [!EB m ps,!.int c,!.int m,!.tup (ps.map fC),!.int at',!.tup [.str "tell",.int a,.int b,.tup<|aL.map ZD++[.tup [.str w,.int x]]],!.int (XE c 9839 5),!.str w,!.int x]:=by
  rw[hp];refine(zI (ρ':=[!EB m ps,!.int c,!.int m,!.tup (ps.map fC),!.int at',!.tup [.str "tell",.int a,.int b,.tup<|aL.map ZD++[ZD (w,x)]],!.int (XE c 9839 5),.un,.un])<|zx<|LL 02<|02).trans (zI ?_);show zXv (qd (a:=.tup<|aL.map ZD++[ZD (w,x)]) (b:=.int (-1)) (by kernel_rfl) rfl<|zNt _ _) rfl
 rw[st];have rt:∀(i:Int)(p:Pl){d:D},fC p=d->qo [!EB m ps,!.int c,!.int m,!.tup (ps.map fC),!.int at',.v d,!.int i,!.str w,!.int x]>(.rt<|EB m<|ps.set at' p):=λi p d hd=>zXw h O p hd
 have e0:=yO c 9839 (m:=5) 02;have e1:=yP c 9839 (m:=5) 02;have cs:XE c 9839 5=0\/XE c 9839 5=1\/XE c 9839 5=2\/XE c 9839 5=3\/XE c 9839 5=4:=01
 have Y:1<=aL.length+1:=01
 rcases cs with e|e|e|e|e<;>rw[e]
 .have hm:zK [.int c,.int 9833,.int ((ps.map fC).length:Int)]>(.int<|XE c 9833 ps.length):=by rw[lA];show LL 02 hn
  refine#[.tell a b<|aL++[(w,XE c 9833 (ps.length:Int))],#[k.a0,k.a1,k.b0,k.b1,k.ne,by simp,‹l1›,‹rs›,λq hq=>?_,λq hq=>?_],
   (zI<|wY (by kernel_rfl)<|Rx<|zSA J<|Tz (a:=.str w) rfl<|Eq.trans (by kernel_rfl) hm).trans (Eq.trans (by kernel_rfl)<|rt 0 _<|hp _)]
  .rcases pA.mp hq with hq|hq
   .show k.wd q<|ki q hq
   .cases gA.mp hq;show hw
  .rcases pA.mp hq with hq|hq
   .show k.nx q<|ki q hq
   .cases gA.mp hq;show y1
 .show#[.tell b a<|aL++[(w,x)],#[k.b0,k.b1,k.a0,k.a1,λe=>k.ne e.symm,k.l0,k.l1,k.rs,k.wd,k.nx],Eq.trans (by kernel_rfl)<|rt 1 _<|congrArg (λl=>D.tup [.str "tell",.int b,.int a,.tup l])<|e3 (w,x)]
 .refine#[.tell a b<|aL++[(wz w,x)],#[k.a0,k.a1,k.b0,k.b1,k.ne,by simp,‹l1›,‹zJJ rs (λv hv=>W5 hw hv)›,λq hq=>?_,λq hq=>?_],
   (sk2 ..).trans ((zI<|wY (by kernel_rfl)<|Rx<|zSA J<|Tz (a:=.str<|wz w) ?_ rfl).trans<|Eq.trans (by kernel_rfl)<|rt 2 _<|hp _)]
  .rcases pA.mp hq with hq|hq
   .show k.wd q<|ki q hq
   .cases gA.mp hq;show zXr hw
  .rcases pA.mp hq with hq|hq
   .show k.nx q<|ki q hq
   .cases gA.mp hq;show k.nx (w,x) (by simp)
  .show qd (a:=.str<|Txt.slice w none<|some 2) (b:=.str<|iA "z") (if_pos hl) rfl (by
    rw[zR9,Tw];show(zXt (by rw[j7,j7];show JA (nP U 1)<|02)).trans (by rw[Qq];rfl))
 .show#[.tell a b [(w,x)],#[k.a0,k.a1,k.b0,k.b1,k.ne,by simp,by simp,by simp,λq hq=>k.wd q (by simp at hq;simp[hq]),λq hq=>k.nx q (by simp at hq;simp[hq])],
   (sk3 ..).trans ((zI<|wY (by kernel_rfl)<|Rx<|Eq.trans (by kernel_rfl)<|congrArg (λz=>some<|D.tup z)<|zQy (aL.map ZD)<|.tup [.str w,.int x]).trans<|Eq.trans (by kernel_rfl)<|rt 3 _ rfl)]
 .show#[.fin,trivial,Eq.trans (by kernel_rfl)<|rt 4 .fin rfl]
def zN4{ps:L Pl}(h:zj m ps)(c:Int):∃O,zj m O/\O.length=ps.length/\(∃k p,O=ps.set k p/\(cG p).length<=3)/\qw [EB m ps,.int c]>EB m O:=by
 have hn:(0:Int)<(ps.length:Int):=by have:=h.n0;omega
 have a0:=yO c 9857 hn;have a1:=yP c 9857 hn;obtain⟨at',U⟩:∃at':Nat,XE c 9857 (ps.length:Int)=(at':Int):=#[(XE c 9857 (ps.length:Int)).toNat,01]
 rw[U]at a0 a1;have hl:at'<ps.length:=01
 let(p,hp,e1,Y):=i8 a0 a1;have ok:=h.ok p hp;have m0:0<m:=by have:=h.m0;omega
 have fin:∀a b ch,X9 m (λn=>0<=n/\n<(ps.length:Int)) a b ch->∃p,cO m (λn=>0<=n/\n<(ps.length:Int)) p/\yg [!EB m ps,!.int c,!.int m,!.tup (ps.map fC),!.int at',!fC (.tell a b ch),.un,.un,.un]>(.rt<|EB m<|ps.set at' p):=λa b ch k=>by
  let(aL,(w,x),rfl):=zN1 k.l0;show zN3 h k at' hl
 cases p with
 |fin=>
  have y0:=yO c 9851 hn;have y1:=yP c 9851 hn
  have q1:c%m≠(c+1)%m:=by
   have:=h.m0;have:=h.m1;have:m=2\/m=3\/m=4:=01
   rcases this with rfl|rfl|rfl<;>omega
  let(p',J,z):=fin (c%m) ((c+1)%m) [(iA "z",XE c 9851 (ps.length:Int))] #[HC _<|01,RB _ m0,HC _<|01,RB _ m0,q1,by simp,by simp,by simp,‹okz›,‹#[y0,y1]›];refine#[_,h.set at' p' J,by simp,#[_,_,rfl,J.few],?_];dsimp[EB,fC,kA,nC,ZD]at z Y ⊢
  exists qw,Ay,LL,hn,U,Y,m0,beq_self_eq_true,z,KA,wB,GD,dG,zF,gN,gT,FE,MF,zJ,NF
 |tell a b ch=>
  let(p',J,z):=fin a b ch ok;refine#[_,h.set at' p' J,by simp,#[_,_,rfl,J.few],?_]
  have ne1:wB (fC<|.tell a b ch) (.tup [.str "end"])>.bl false:=by
   have hd:LF (.tup [.str "end"])<=20:=02
   unfold wB;rw[if_pos<|01,Sn]
  dsimp[EB]at z ⊢
  exists qw,Ay,LL,hn,U,Y,ne1,z,KA,GD,dG,zF,gN,gT,FE,MF,zJ,NF
noncomputable def tp(p:Pl)(d:Int):Bool:=match p with
 |.fin=>false
 |.tell a b _=>decide (d=a) || decide (d=b)
def zKM:((iA "end" : Str)==iA "tell")=false:=rfl
def Wt(d a b:Int):JI (.int d) (.tup [.int a,.int b])>.bl (decide (d=a) || decide (d=b)):=by
 have e1:(a==d)=decide (d=a):=by show decide_eq_decide.mpr #[λh=>h.symm,λh=>h.symm]
 have z:(b==d)=decide (d=b):=by show decide_eq_decide.mpr #[λh=>h.symm,λh=>h.symm]
 have J:GD (.int a) (.int d)=(a==d):=by rfl
 have O:GD (.int b) (.int d)=(b==d):=by rfl
 change some (D.bl (GD _ _ || (GD _ _ || false)))=_
 simp_all
def Qw(p:Pl)(d:Int):qu [fC p,.int d]>(.bl<|tp p d):=by
 cases p with
 |fin=>rfl
 |tell a b ch=>
  exists 0,qu,Mm,fC,FJ,bR,at2,tp,beq_self_eq_true,Wt,KA,wB
noncomputable def ML(ps:L Pl)(d n:Int):L Int:=match ps[n.toNat]? with
 |some p=>if tp p d then [] else (cG p).map (·.2)
 |none=>[]
noncomputable def run(ps:L Pl)(d:Int):Nat->L Int->L Int->Op (L Int)
 |0,_,_=>none
 |k+1,found,ws=>match ws.getLast? with
  |none=>some found
  |some n=>if n∈found then run ps d k found ws.dropLast else run ps d k (found++[n]) (ws.dropLast++ML ps d n)
def p6{c:QE}{F:AB}(h:c ρ>true)(e:F ρ>.nx ρ'\/F ρ>.ct ρ'):RM c F (k+1) ρ=RM c F k ρ':=by
 rcases e with e|e<;>dsimp[RM,h,dA,if_true,e]
def Nq{c:QE}{F:AB}(h:c ρ>false):RM c F (k+1) ρ>.nx ρ:=by
 simp[RM,h]
def Cu{z:Type}{ws:L z}{n:z}(h:ws.getLast?>n):ws=ws.dropLast++[n]/\0<ws.length:=by
 let(ys,rfl):=List.getLast?_eq_some_iff.mp h;simp
noncomputable def tk(found:L Int):L (kC×D):=found.map λn=>(OD n,D.bl true)
theorem Ry(n:Int):∀(found:L Int),(VO (tk found)<|.inl n).isSome=decide (n∈found)
 | []=>rfl
 |x::found=>by
  have ih:=Ry n found;unfold VO tk at ih|-;dsimp[kA,BB];by_cases e:x=n
  .subst e;simp
  .have e':¬ (OD x:kC)=OD n:=λz=>e ‹z›
   have J:¬ n=x:=λz=>e z.symm
   dsimp[e',oA,J,false_or];show ih
def zSB(h:n∉found):RP (tk found) (.inl n) (.bl true)=tk (found++[n]):=by
 unfold RP;rw[if_neg]
 .simp[tk]
 .simp[tk];show h
def FH(ps:L Pl)(ws:L Int):=(∀n∈ws,0<=n/\n<(ps.length:Int):Prop)
def Qx(h:zj m ps)(d n:Int):FH ps (ML ps d n)/\(ML ps d n).length<=3:=by
 unfold ML;split
 .rename_i p e;have ok:=h.ok p<|xA e;split
  .show#[λ_ h=>by simp at h,by simp]
  .refine#[λx hx=>?_,‹ok.few›];let(q,hq,rfl):=QA.mp hx;show ok.next hq
 .show#[λ_ h=>by simp at h,by simp]
def zKN(ρ:XA)(hl:ρ.length=7)(ch:L (Str×Int)):zF (gN 7) (λ_=>some true) (b2 (gR 7) (zC 1) KA) (ch.map ZD) (ρ++[.un])>(ch.map (·.2)).map D.int:=by
 have:=zS (g:=gN 7) (p:=λ_=>some true) (f:=b2 (gR 7) (zC 1) KA) (emb:=ZD) (ρ:=ρ++[.un]) _ (λq=>D.int q.2) ch λq _=>by
  refine#[_,rfl,rfl,λ_=>?_];have e:((ρ++[Sl.un]).set 7 _)[7]?>(!ZD q):=cB (by simp[hl]);dsimp[ZD]at e ⊢
  exists 0,bR,e,KA,wB
 rw[this,sC.mpr (by simp),UA];rfl
def zLh{m:Int}{ps:L Pl}(h:zj m ps){d:Int}{found ws:L Int}{n:Int}(hf:found.length<=1000)(hw:ws.length<=1000)(hl:ws.getLast?>n)(hn:0<=n/\n<(ps.length:Int)):
  (qv [s0,!.int d,s2,!.tup (ps.map fC),.m<|tk found,.l<|ws.map D.int,s6]>.nx [s0,!.int d,s2,!.tup (ps.map fC),.m<|tk<|if n∈found then found else found++[n],.l<|(if n∈found then ws.dropLast else ws.dropLast++ML ps d n).map D.int,!.int n] \/
  qv [s0,!.int d,s2,!.tup (ps.map fC),.m<|tk found,.l<|ws.map D.int,s6]>.ct [s0,!.int d,s2,!.tup (ps.map fC),.m<|tk<|if n∈found then found else found++[n],.l<|(if n∈found then ws.dropLast else ws.dropLast++ML ps d n).map D.int,!.int n]):=by
 let(p,hp,e1,Y):=i8 hn.1 hn.2;have ok:=h.ok p hp;let(ew,AK):=Cu hl
 have g1:(ws.map D.int)[ws.length-1]?>.int n:=by
  rw[MA,<- QL,hl];rfl
 have z:=Ry n found;have tl:(tk found).length<1000000:=by simp[tk];omega
 have hd:(ws.map D.int).dropLast=ws.dropLast.map D.int:=by rw[TQ]
 have few:=ok.few;have E9:(cG p).length<=1000000:=01
 have J9:ws.length-1+(cG p).length<=1000000:=01
 by_cases hm:n∈found
 .right
  rw[decide_eq_true hm]at z;dsimp[hm,if_true]
  exists 0,qv,OQ,g1,FK,z,hd,KA,wB
 .left
  rw[decide_eq_false hm]at z;have pt:=zSB hm;dsimp[hm,if_false]
  cases O:tp p d with
  |true=>
   have U:ML ps d n=[]:=by simp[ML,e1,O]
   exists 0,qv,OQ,g1,FK,z,tl,pt,hd,Y,Qw,O,U,KA,wB
  |false=>
   have U:ML ps d n=(cG p).map (·.2):=by simp[ML,e1,O]
   have cs:=zKN [s0,!.int d,s2,!.tup (ps.map fC),.m<|tk<|found++[n],.l<|ws.dropLast.map D.int,!.int n] rfl<|cG p;unfold qv;generalize (b2 (gR 7) (zC 1) KA)=el at cs|-;dsimp[MB,WB]at cs
   exists OQ,g1,FK,z,tl,pt,hd,Y,Qw,O,U,cP,xf,E9,cs,UC,J9,uA,KA,wB,GD,dG,gN,gT,FE,MF,zQ,zJ,NF
noncomputable def oU(n:Nat)(found:L Int):Nat:=(DA n).countP λ(i:Nat)=>not<|decide ((i:Int)∈found)
theorem Zz{J:Type}{p q:J->Bool}:∀{l:L J}{x:J},(∀y∈l,q y=true->p y=true)->x∈l->p x=true->q x=false->l.countP q+1<=l.countP p
 | [],x,_,hx,_,_=>by simp_all
 |y::l,x,h,hx,h1,h2=>by
  rw[MR,MR];have mono:=List.countP_mono_left λz hz hq=>h z (cA _ hz) hq
  rcases oA.mp hx with rfl|hx
  .simp_all
  .have ih:=Zz (λz hz=>h z<|cA _ hz) hx h1 h2;have hy:=h y eA
   cases e:q y with
   |true=>simp_all
   |false=>grind
def zKO{n:Nat}{found:L Int}{k:Int}(h0:0<=k)(h1:k<(n:Int))(h:k∉found):oU n (found++[k])+1<=oU n found:=by
 refine Zz (x:=k.toNat) (λy _ hy=>?_) (by grind) ?_ ?_
 .simp at hy|-;show hy.1
 .have:(k.toNat:Nat)=k:=01
  simp[this,h]
 .have:(k.toNat:Nat)=k:=01
  simp[this]
def zSC(n:Nat)(found:L Int):oU n found<=n:=by
 have:=List.countP_le_length (l:=DA n) (p:=λ(i:Nat)=>not<|decide ((i:Int)∈found));simpa[oU] using this
def lZ{ws:L Int}:VX [s0,s1,s2,s3,s4,.l<|ws.map D.int,s6]>(decide<|0<ws.length):=by
 exists 0,VX,KA,wB
 simp_all
def Zk{ws:L Int}(h:ws.getLast?=none):ws=[]:=by simp_all
theorem Ua{m:Int}{ps:L Pl}(h:zj m ps)(d:Int):∀(k:Nat)(found ws:L Int),FH ps ws->found.length+oU ps.length found<=40->4*oU ps.length found+ws.length<k->k<=1000->∃f,run ps d k found ws>f/\f.length<=40 /\
  (∀s0 s2 s6,∃z,RM VX qv k [s0,!.int d,s2,!.tup (ps.map fC),.m<|tk found,.l<|ws.map D.int,s6]>.nx [s0,!.int d,s2,!.tup (ps.map fC),.m<|tk f,.l [],z])
 |0,_,_,_,_,hk,_=>01
 |k+1,found,ws,hi,hf,hk,ZT=>by
  unfold run
  cases e:ws.getLast? with
  |none=>
   have:=Zk e;subst this
   show#[found,rfl,01,λs0 s2 s6=>#[s6,Nq lZ]]
  |some n=>
   let(O,hp):=Cu e;have hn:=hi n (by rw[O];simp);have J:FH ps ws.dropLast:=λx hx=>hi x<|(rH _).subset hx
   have tA:=λ(s0 s2 s6:Sl)=>zLh h (d:=d) (s0:=s0) (s2:=s2) (s6:=s6) (found:=found) 01 01 e hn
   have go:∀s0 s1 s2 s3 s4 s6,VX [s0,s1,s2,s3,s4,.l<|ws.map D.int,s6]>true:=λ_ _ _ _ _ _=>by rw[lZ];simp[hp]
   simp only;by_cases hm:n∈found
   .dsimp[hm,if_true]at tA ⊢;let(f,r1,r2,r3):=Ua h d k found ws.dropLast J hf (by rw[UC];omega) 01;refine#[f,r1,r2,λs0 s2 s6=>?_];let(z,e'):=r3 s0 s2<|!.int n;show#[z,by rw[p6 (go _ _ _ _ _ _)<|tA s0 s2 s6,e']]
   .dsimp[hm,if_false]at tA ⊢;have u:=zKO hn.1 hn.2 hm;let(U,Y):=Qx h d n
    let(f,r1,r2,r3):=Ua h d k (found++[n]) _ (λx hx=>by
     rcases pA.mp hx with hx|hx
     .show J x hx
     .show U x hx) (by simp;omega) (by rw[OA,UC];omega) 01
    refine#[f,r1,r2,λs0 s2 s6=>?_];let(z,e'):=r3 s0 s2<|!.int n;show#[z,by rw[p6 (go _ _ _ _ _ _)<|tA s0 s2 s6,e']]
def zQ1(l:L Int):RD.lY (l.map D.int)>l:=by
 induction l with
 |nil=>rfl
 |cons x xs ih=>simp[RD.lY,ih]
def xg{l:L Int}(h:l.length<64):JQ (.lst<|l.map D.int)>(EM l).map D.int:=by
 dsimp[JQ,US,dA,lA,h,if_true,zQ1]
def zVA(f:L Int):Fc (tk f)=f.map D.int:=by simp[Fc,tk,UP]
def zKP(h:zj m ps)(d:Int)(some':L Int)(hs:FH ps some')(hl:some'.length<=100):∃f,run ps d 300 [] some'>f/\f.length<=40/\GP [EB m ps,.int d,.tup<|some'.map D.int]>(.tup<|(EM f).map D.int):=by
 have O:=zSC ps.length [];have hn:=h.n1;let(f,r1,r2,r3):=Ua h d 300 [] _ hs (by grind) 01 01;refine#[f,r1,r2,?_];let(J,e):=r3 (!EB m ps) (!.tup (some'.map D.int)) .un;have e0:KA (EB m ps) (.int 1)>(.tup<|ps.map fC):=rfl;have z:tk []=[]:=rfl;rw[z]at e
 exists 0,GP,Qv,e0,e,Tr,zVA,xg<|show f.length<64 by omega,wB
noncomputable abbrev xh:L Str:=["place","dancer"]
def Og:=((qc<|Xq (b2 (b2 (gR 0) (zC 0) KA) (λ_=>some<|D.str "end") wB)<|(zA (gV 0)<|zA (gV 1) zE)>>=qu):AB)
def Cd(ds:L D):=(BI xh Og ds:Op D)
def qJ:=((b2 (b2 (gR 0) (zC 1) KA) (gR 4) KA):TB)
def qK:=((lL<|(zA (gV 4)<|zA (gV 1) zE)>>=Cd):QE)
def Mg:=((gV 4):TB)
noncomputable abbrev Yy:L Str:=["dance","dancer","some","places"]
def Mp:=((sq (zw 3 λρ=>((zB 1 (iT<|gV 2) (gN 4) (λ_=>some true) qJ) ρ).map D.lst)<|qc<|(zB 1 (iL<|gV 3) (gN 4) qK Mg)<&>D.lst):AB)
def yZ(ds:L D):=(BI Yy Mp ds:Op D)
def Az:=((b2 (gR 2) (zC 0) KA):TB)
noncomputable abbrev jx:L Str:=["turn","dancer"]
def Bt:=((sq (DE (bB<|b2 (b2 (gR 0) (zC 0) KA) (λ_=>some<|D.str "end") wB) (qc<|(zA (λ_=>some<|D.str "end") zE)<&>D.tup)<|λρ=>some<|Out.nx ρ)<|sq (DE (bB<|b2 (b2 (gR 0) (zC 1) KA) (gR 1) wB) (qc<|(zA (λ_=>some<|D.str "tells")<|zA (b2 (gR 0) (zC 2) KA)<|zA (b1 ((zB 1 (iT<|b2 (gR 0) (zC 3) KA) (gN 2) (λ_=>some true) Az)<&>D.lst) OH) zE)<&>D.tup)<|λρ=>some<|Out.nx ρ)<|qc<|(zA (λ_=>some<|D.str "hears")<|zA (b2 (gR 0) (zC 1) KA) zE)<&>D.tup):AB)
def UX(ds:L D):=(BI jx Bt ds:Op D)
def yG:=((b2 ((zA (gV 3)<|zA (gV 1) zE)>>=UX) (gR 2) wB):TB)
noncomputable abbrev Ym:L Str:=["turns","dancer","asked"]
def qp:=((xG (oX<|DE (bB<|b2 (b1 (gR 0) pH) (zC 0) wB) (qc<|(zA (λ_=>some<|D.str "rests") zE)<&>D.tup)<|λρ=>some<|Out.nx ρ)<|xG (oX<|zw 2<|(zA (b2 (gR 0) (zC 0) KA)<|zA (gV 1) zE)>>=UX)<|xG (KR (ZO<|lL<|b1 ((zB 1 (iL<|gV 0) (gN 3) (λ_=>some true) yG)<&>D.lst) LU) (vR 0<|zA (b1 (gR 1)<|OT "dancer " " can't know which of unlike turns it is at") zE)<|oX λρ=>some<|Out.nx ρ)<|oX<|qc<|gV 2):XA->Op TF)
def zt(ds:L D):=(aX Ym qp ds:Op (Except Nat D))
def zk:=((Ef 1 (gV 3)<|gV 4):AB)
def zy:=((zN (iT<|(zA (gV 2) zE)>>=Ax) (gT 2<|FE (gN 3)<|FE (gN 4) MF) zk):AB)
noncomputable abbrev Xx:L Str:=["turns","nexts","turn","word","number"]
def Mh:=((sq (Se 1)<|sq (zN (iL<|gV 0) (gN 2) zy)<|sY 1):AB)
def qL(ds:L D):=(v8 Xx Mh ds:Op Sl)
def yu:=((DE (bB<|b2 (b1 ((zA (gV 0)<|zA (gV 1)<|zA ((zA (gV 0)<|zA (gV 1)<|zA ((zA (gV 3) zE)<&>D.tup) zE)>>=GP) zE)>>=yZ) pH) (zC 0) wB) (Tc 2 (gV 3)<|λ_=>some<|D.bl true)<|λρ=>some<|Out.nx ρ):AB)
noncomputable abbrev xj:L Str:=["dance","dancer","found","number"]
def Ce:=((sq (Tb 2)<|sq (zN (WH<|zA (b1 (b2 (gR 0) (zC 1) KA) pH) zE) (gN 3) yu)<|sY 2):AB)
def WX(ds:L D):=(v8 xj Ce ds:Op Sl)
def zW:=((vW 3<|gV 4):TB)
noncomputable abbrev yy:L Str:=["dancer","some","turns","vain"]
def zU:=((KR (QS (bB<|b2 (b1 (gR 2) pH) (zC 0) fR)<|lL<|b1 ((zB 1 (iT<|gV 1) (gN 4) (λ_=>some true) zW)<&>D.lst) oZ) (vR 0<|zA (b1 (gR 0)<|OT "dancer " " may wait in vain for its turn") zE)<|oX λρ=>some<|Out.nx ρ):XA->Op TF)
def za(ds:L D)(x:Ob):=(IM λa=>Z7 yy zU a ds x:Op (Except Nat D))
def Bg:=((sq (zw 12<|(zA (gV 0)<|zA (gV 1)<|zA (b1 (To 9<|gV 11) OH) zE)>>=GP)<|sq (DE (w8 4<|gV 12) (sq (Ew 4 (gV 12)<|b1 (gR 3) pH)<|vJ 3<|gV 12)<|λρ=>some<|Out.nx ρ)<|vJ 10<|(zA (gV 11)<|zA (oW 4<|gV 12) zE)<&>D.tup):AB)
def yQ:=((bB<|b2 (b1 (gR 5) pH) (b1 (gR 3) pH) V9):QE)
def yD:=((xG (oX<|zw 6<|b2 (gR 3) (b1 (gR 5) pH) KA)<|xG (oX<|zw 7<|(zA (gV 0)<|zA (gV 1)<|zA (gV 6) zE)>>=yZ)<|xG (Rz<|Tp 2 (oV (gV 1)<|oV (gV 6)<|oV (gV 7) zE) za)<|xG (Fe 8<|(zA (gV 7)<|zA (gV 1) zE)>>=zt)<|oX<|sq (HR 9 (zA (gV 7) zE) qL)<|sq (yJ 10 zE)<|sq (zN (iL<|(Sf 9)<&>D.lst) (gN 11) Bg)<|vJ 5<|wW (bB<|b2 (b2 (gR 8) (zC 0) KA) ((zA (λ_=>some<|D.str "tells")<|zA (λ_=>some<|D.str "hears") zE)<&>D.tup) JI) ((zA (b2 (gR 8) (zC 0) KA)<|zA (b2 (gR 8) (zC 1) KA)<|zA (b1 (gR 10) OH) zE)<&>D.tup)<|gV 8):XA->Op TF)
noncomputable abbrev xk:L Str:=["dance","dancer","vain","known","numbers","part","some","turns","asked","nexts","pairs","word","come_to"]
def Oh:=((xG (oX<|HR 2 (zA (gV 0)<|zA (gV 1) zE) WX)<|xG (oX<|yJ 3<|zA ((zA (gV 0)<|zA (gV 1)<|zA ((zA (zC 0) zE)<&>D.tup) zE)>>=GP) zE)<|xG (oX<|tY 4 (b2 (gR 3) (zC 0) KA)<|zC 0)<|xG (oX<|yJ 5 zE)<|xG (h7 20000000 yQ yD)<|oX<|qc<|b1 (gR 5) OH):XA->Op TF)
def yR(ds:L D):=(aX xk Oh ds:Op (Except Nat D))
noncomputable def pR(p:Pl)(d:Int):Bool:=match p with
 |.fin=>true
 |p=>tp p d
def zXx(p:Pl)(d:Int):Cd [fC p,.int d]>(.bl<|pR p d):=by
 have e:=Qw p d
 cases p with
 |fin=>rfl
 |tell a b ch=>
  have z:KA (fC<|.tell a b ch) (.int 0)>.str "tell":=rfl
  exists 0,Cd,Og,z,pR,zNx,e,wB
noncomputable def JR(ps:L Pl)(S:L Int):L Pl:=S.filterMap λn=>ps[n.toNat]?
def turns(ps:L Pl)(d:Int)(S:L Int):=((JR ps S).filter λp=>pR p d:L Pl)
def xl(ps:L Pl)(S:L Int):(JR ps S).length<=S.length:=List.length_filterMap_le ..
theorem zKQ(h0:s0=!(EB m ps)):∀(S:L Int),FH ps S->zF (gN 4) (λ_=>some true) qJ (S.map D.int) [s0,s1,s2,s3,.un]>(JR ps S).map fC
 | [],_=>rfl
 |n::S,hi=>by
  subst h0;have hn:=hi n eA;let(p,hp,e1,z):=i8 hn.1 hn.2;have ih:=zKQ (s1:=s1) (s2:=s2) (s3:=s3) (m:=m) rfl S λx hx=>hi x<|cA _ hx
  have e0:KA (EB m ps) (.int 1)>(.tup<|ps.map fC):=rfl;have J:KA (.tup _) (.int n)>_:=z;have ep:JR ps (n::S)=p::JR ps S:=by simp[JR,e1]
  rw[ep,kA];unfold zF;rw[ih]
  exists qJ,e0,J,wB,GD,dG,gN,gT,FE,MF,zQ,zJ,NF
def zLi(h1:s1=!(.int d))(qs:L Pl):zF (gN 4) qK Mg (qs.map fC) [s0,s1,s2,s3,.un]>(qs.filter λp=>pR p d).map fC:=by
 subst h1;refine zS _ _ qs λp _=>#[_,rfl,?_,λ_=>?_]
 .have:=zXx p d
  exists 0,qK,this,KA,wB
 rfl
def zN6(d:Int){S:L Int}(hi:FH ps S)(hl:S.length<=1000):yZ [EB m ps,.int d,.tup<|S.map D.int]>(.lst<|(turns ps d S).map fC):=by
 have h1:=zKQ (s1:=!.int d) (s2:=!.tup (S.map D.int)) (s3:=.un) (m:=m) rfl S hi;have h2:=zLi (s0:=!EB m ps) (s2:=!.tup (S.map D.int)) (s3:=!.lst ((JR ps S).map fC)) (d:=d) rfl<|JR ps S;have l1:S.length<=1000000:=01
 have z:(JR ps S).length<=1000000:=by have:=xl ps S;omega
 unfold yZ Mp
 exists h1,h2,l1,z,turns,KA,wB,GD,dG,gT,FE,MF,zQ,zJ,NF
noncomputable def UM(p:Pl)(d:Int):D:=match p with
 |.fin=>.tup [.str "end"]
 |.tell a b ch=>if a=d then .tup [.str "tells",.int b,.tup<|ch.map λq=>.str q.1] else .tup [.str "hears",.int a]
def Ou{f:TB}(ρ:XA)(ch:L (Str×Int))(i:Nat)(hf:∀q:Str×Int,f ((ρ++[Sl.un]).set i<|!ZD q)>.str q.1):zF (gN i) (λ_=>some true) f (ch.map ZD) (ρ++[Sl.un])>(ch.map λq=>D.str q.1):=by
 have:=zS (g:=gN i) (p:=λ_=>some true) _ _ ch λq _=>#[_,rfl,rfl,λ_=>hf q]
 rw[this,sC.mpr<|by simp]
def zN7(p:Pl)(d:Int)(hl:(cG p).length<=3):UX [fC p,.int d]>UM p d:=by
 cases p with
 |fin=>exists 0,UX,Bt,fC,FJ,UM,beq_self_eq_true,KA,wB
 |tell a b ch=>
  have U:KA (fC<|.tell a b ch) (.int 0)>.str "tell":=by dsimp[fC,KA,FJ]
  have Y:KA (fC<|.tell a b ch) (.int 1)>.int a:=by dsimp[fC,KA,bR]
  have x2:KA (fC<|.tell a b ch) (.int 2)>.int b:=by dsimp[fC,KA,at2]
  have x3:KA (fC<|.tell a b ch) (.int 3)>(.tup<|ch.map ZD):=by dsimp[fC,KA,k9]
  have z:wB (.int a) (.int d)>(.bl<|decide<|a=d):=by
   unfold wB;rw[if_pos<|by simp[LF]];unfold GD;rw[fF]
  have es:wB (.str "tell") (.str "end")>.bl false:=by
   unfold wB;rw[if_pos<|by simp[LF]];unfold GD;rw[zNx]
  have l1:ch.length<=1000000:=by dsimp[cG]at hl;omega
  have O:=Ou (f:=Az) [!fC (.tell a b ch),!.int d] ch 2 λq=>by
   exists 0,Az,ZD,FJ,KA,wB
  unfold UX Bt;simp at O;by_cases h:a=d
  .rw[decide_eq_true h]at z;have J:UM (.tell a b ch) d=.tup [.str "tells",.int b,.tup<|ch.map λq=>.str q.1]:=by simp[UM,h]
   rw[J]
   exists U,Y,x2,x3,z,es,O,l1,GD,dG,gT,FE,MF,zQ,zJ,NF
  .rw[decide_eq_false h]at z;have J:UM (.tell a b ch) d=.tup [.str "hears",.int a]:=by simp[UM,h]
   rw[J]
   exists U,Y,x2,x3,z,es,O,l1,GD,dG,gT,FE,MF,zQ,zJ,NF
set_option genInjectivity true in
inductive Ask where
 |fin|tells (b:Int) (ws:List Str)|hears (a:Int)
deriving DecidableEq
noncomputable def ask(p:Pl)(d:Int):Ask:=match p with
 |.fin=>.fin
 |.tell a b ch=>if a=d then .tells b (ch.map (·.1)) else .hears a
noncomputable def zX:Ask->D
 |.fin=>.tup [.str "end"]
 |.tells b ws=>.tup [.str "tells",.int b,.tup<|ws.map D.str]
 |.hears a=>.tup [.str "hears",.int a]
def Qy(p:Pl)(d:Int):UM p d=zX (ask p d):=by
 cases p with
 |fin=>rfl
 |tell a b ch=>
  unfold UM ask;by_cases h:a=d
  .simp[h,zX]
  .simp[h,zX]
theorem Ov:∀(l r:L Str),dG (l.map D.str) (r.map D.str)=decide (l=r)
 | [],[]=>rfl
 | [],_::_=>rfl
 |_::_,[]=>rfl
 |a::l,b::r=>by
  rw[kA,kA,dG,Ov l r,GD];by_cases h:a=b
  .subst h;simp
  .simp[h]
def Kx:((iA "tells" : Str)==iA "end")=false:=rfl
def iW:((iA "end" : Str)==iA "tells")=false:=rfl
def Kw:((iA "hears" : Str)==iA "end")=false:=rfl
def gW:((iA "end" : Str)==iA "hears")=false:=rfl
def W3:((iA "tells" : Str)==iA "hears")=false:=rfl
def jW:((iA "hears" : Str)==iA "tells")=false:=rfl
def Dj(a b:Int):(a==b)=decide (a=b):=rfl
def zSD(x y:Ask):GD (zX x) (zX y)=decide (x=y):=by
 cases x<;>cases y<;>dsimp[zX,GD,dG,beq_self_eq_true,Kx,iW,Kw,gW,W3,jW,Ov,Dj,jM,kX,mL,decide_true,decide_false,reduceCtorEq]
 .simp_all
 simp_all
def zN8(x:Ask):LF (zX x)<=20:=by
 have ds:∀ws:L _,GH (ws.map D.str)<=1:=λws=>by
  induction ws with
  |nil=>show LB _
  |cons w ws ih=>show Ur.mpr #[LB _,ih]
 cases x with
 |fin=>decide
 |tells b ws=>have:=ds ws;dsimp[zX,LF,GH];omega
 |hears a=>show JC rfl
def zN9(x y:Ask):wB (zX x) (zX y)>(.bl<|decide<|x=y):=by
 unfold wB;rw[if_pos (by have:=zN8 x;omega),zSD]
def A6(l:L Bool):RD.wU (l.map D.bl)>l:=by
 induction l with
 |nil=>rfl
 |cons x xs ih=>simp[RD.wU,ih]
def D8{d:Int}(h0:0<=d)(h1:d<4):d=0\/d=1\/d=2\/d=3:=by
 let(n,rfl):=PD h0;show(by decide:∀n:Nat,n<4->(n:Int)=0\/(n:Int)=1\/(n:Int)=2\/(n:Int)=3) n (XD.mp h1)
def zXz(h:0<=i/\i<1000000/\(oF++a++((toString i:String):Str)++b).length<=1000000):∃x,OT a b (.int i)>x:=by
 refine#[.str<|oF++a++(toString i:String)++b,?_];dsimp[OT];rw[if_pos h]
def zX0{d:Int}(h0:0<=d)(h1:d<4):∃x,OT "dancer " " can't know which of unlike turns it is at" (.int d)>x:=by
 rcases D8 h0 h1 with rfl|rfl|rfl|rfl<;>show zXz (by decide +kernel)
def zX1{d:Int}(h0:0<=d)(h1:d<4):∃x,OT "dancer " " may wait in vain for its turn" (.int d)>x:=by
 rcases D8 h0 h1 with rfl|rfl|rfl|rfl<;>show zXz (by decide +kernel)
noncomputable def Em(ts:L Pl)(d:Int):Except Nat D:=match ts with
 | []=>.ok<|.tup [.str "rests"]
 |t::ts=>if (t::ts).all (λu=>decide<|ask u d=ask t d) then .ok (zX<|ask t d) else .error 0
def zJN(h0:0<=d)(h1:d<4)(ts:L Pl)(hl:ts.length<=1000)(hc:∀t∈ts,(cG t).length<=3):
  zt [.lst<|ts.map fC,.int d]>Em ts d:=by
 unfold Em;let(x,hx):=zX0 h0 h1
 cases ts with
 |nil=>
  exists 0,zt,qp,aX,xG,oX,KA,wB
 |cons t ts=>
  have U:KA (.lst (fC t::ts.map fC)) (.int 0)>fC t:=by dsimp[KA,FJ]
  have m0:=zN7 t d<|hc t eA;rw[Qy]at m0
  have J:zF (gN 3) (λ_=>some true) yG ((t::ts).map fC) [!.lst (fC t::ts.map fC),!.int d,!zX (ask t d),.un]>((t::ts).map λu=>decide<|ask u d=ask t d).map D.bl:=by
   have:=zS (g:=gN 3) (p:=λ_=>some true) (f:=yG) (emb:=fC) (ρ:=[!.lst (fC t::ts.map fC),!.int d,!zX (ask t d),.un]) (λ_=>true) (λu=>D.bl<|decide<|ask u d=ask t d) (t::ts) λu Y=>by
    refine#[_,rfl,rfl,λ_=>?_];have m1:=zN7 u d<|hc u Y;rw[Qy]at m1
    exists 0,yG,m1,zN9,KA
   rw[this,sC.mpr (by simp),UA];rfl
  rw[kA]at J
  have e0:wB (.int<|(ts.length:Int)+1) (.int 0)>.bl false:=by
   unfold wB;rw[if_pos<|by simp[LF]];unfold GD;rw[Dj,decide_eq_false<|01]
  have l1:ts.length+1<=1000000:=by dsimp[sA]at hl;omega
  have O:=A6 ((t::ts).map λu=>decide<|ask u d=ask t d)
  have z:((t::ts).map λu=>decide<|ask u d=ask t d).all id=(t::ts).all λu=>decide (ask u d=ask t d):=by
   rw[UG];rfl
  generalize ((t::ts).map _)=bs at J O z;unfold zt qp
  cases ha:(t::ts).all _ with
  |true=>
   rw[ha]at z
   exists aX,xG,oX,KR,vR,U,m0,J,e0,l1,O,z,lA,SU,IF,GD,dG,gT,FE,MF,zQ,zJ,NF
   rw[ha];rfl
  |false=>
   rw[ha]at z
   exists aX,xG,oX,KR,vR,U,m0,J,e0,l1,O,z,lA,SU,IF,hx,GD,dG,gT,FE,MF,zQ,zJ,NF
   rw[ha];rfl
noncomputable def IH(qs:L (Str×Int)):L Str:=qs.foldl (λacc q=>if q.1∈acc then acc else acc++[q.1]) []
noncomputable def sel(w:Str)(qs:L (Str×Int)):L Int:=(qs.filter λq=>decide<|q.1=w).map (·.2)
def yS(qs:L (Str×Int)):=((IH qs).map λw=>(vE w,(sel w qs).map D.int):L (kC×L D))
def W6(qs:L (Str×Int))(q:Str×Int):IH (qs++[q])=if q.1∈IH qs then IH qs else IH qs++[q.1]:=by
 unfold IH;simp_all
def Ow(w:Str)(qs:L (Str×Int))(q:Str×Int):sel w (qs++[q])=sel w qs++(if q.1=w then [q.2] else []):=by
 unfold sel;by_cases h:q.1=w<;>simp[h]
def Ox{z:Type}{P:L z->Prop}(h0:P [])(h1:∀l a,P l->P (l++[a]))(l:L z):P l:=by
 have:∀n (l:L z),l.length=n->P l:=by
  intro n
  induction n with
  |zero=>simp_all
  |succ n ih=>
   intro l e;let(i,x,rfl):=zN1 (l:=l) 01;show h1 i x (ih i<|by simpa using e)
 show this _ l rfl
def xm(qs:L (Str×Int)):(IH qs).Nodup:=by
 refine Ox (P:=λqs=>(IH qs).Nodup) (by simp[IH]) (λl q ih=>?_) qs;rw[W6];split
 .show ih
 .rename_i h;show rB.mpr #[ih,by simp,λa ha b hb=>by simp at hb;subst hb;showλe=>h<|e ▸ ha]
def Dk(qs:L (Str×Int)):(IH qs).length<=qs.length:=by
 refine Ox (P:=λqs=>(IH qs).length<=qs.length) (by simp[IH]) (λl q ih=>?_) qs;rw[W6];split<;>simp<;>omega
def Qz:w∈IH qs↔∃q∈qs,q.1=w:=by
 refine Ox (P:=λqs=>w∈IH qs↔∃q∈qs,q.1=w) (by simp[IH]) (λl q ih=>?_) qs;rw[W6];split
 .rename_i h;rw[ih];constructor
  .rintro⟨x,hx,e⟩;show#[x,by simp[hx],e]
  .rintro⟨x,hx,e⟩;rcases pA.mp hx with hx|hx
   .show#[x,hx,e]
   .simp at hx;subst hx;show ih.mp<|e ▸ h
 .rw[pA,ih];constructor
  .rintro(⟨x,hx,e⟩|hx)
   .show#[x,by simp[hx],e]
   .simp at hx;show#[q,by simp,hx.symm]
  .rintro⟨x,hx,e⟩;rcases pA.mp hx with hx|hx
   .show .inl #[x,hx,e]
   .simp at hx;subst hx;show .inr (by simp[e])
def Ra(w:Str)(qs:L (Str×Int)):(sel w qs).length<=qs.length:=by
 unfold sel;rw[lA];show AD ..
theorem Cv(g:Str->L D)(w:Str):∀Lv:L Str,PF (Lv.map λv=>((vE v:kC),g v)) (.inr w)=if w∈Lv then some (g w) else none
 | []=>rfl
 |v::Lv=>by
  have ih:=Cv g w Lv;unfold PF at ih|-;rw[kA,BB];by_cases e:v=w
  .subst e;simp
  .have e1:¬ (vE v:kC)=vE w:=λz=>e ‹z›
   have J:¬ w=v:=λz=>e z.symm
   simp_all
theorem zKS(g:Str->L D)(w:Str)(x:L D):∀Lv:L Str,Lv.Nodup->w∈Lv->nI (.inr w) x (Lv.map λv=>((vE v:kC),g v))=Lv.map λv=>((vE v:kC),if v=w then x else g v)
 | [],_,h=>by simp at h
 |v::Lv,hn,h=>by
  let(h1,h2):=uB.mp hn;rw[kA,kA];by_cases e:v=w
  .subst e;dsimp[nI,if_true,nG,true_and];refine uC λu J=>?_
   have:u≠v:=λz=>h1<|z ▸ J
   simp[this]
  .have e1:¬ (vE v:kC)=vE w:=λz=>e ‹z›
   dsimp[nI,e1,e,if_false,nG,true_and];rcases oA.mp h with h|h
   .show absurd h.symm e
   .show zKS g w x Lv h2 h
def zVB{q:Str×Int}(h:q.1∈IH qs):PF (yS qs) (.inr q.1)>(sel q.1 qs).map D.int/\nI (.inr q.1) ((sel q.1 qs).map D.int++[.int q.2]) (yS qs)=yS (qs++[q]):=by
 refine#[by unfold yS;rw[Cv _,if_pos h],?_];unfold yS;rw[zKS _ _ _ _ (xm qs) h,W6,if_pos h];refine uC λv _=>?_
 rw[Ow];by_cases e:v=q.1
 .simp[e]
 .simp[e,Ne.symm e]
def zVC{q:Str×Int}(h:q.1∉IH qs):PF (yS qs) (.inr q.1)=none/\yS qs++[(.inr q.1,[.int q.2])]=yS (qs++[q]):=by
 refine#[by unfold yS;rw[Cv _,if_neg h],?_];unfold yS;rw[W6,if_neg h,uA]
 have s0:sel q.1 qs=[]:=by
  unfold sel;rw[mP,List.filter_eq_nil_iff];intro x hx z;show h (Qz.mpr #[x,hx,‹z›])
 congr 1
 .refine uC λv hv=>?_
  have:q.1≠v:=λz=>h<|z ▸ hv
  rw[Ow,if_neg this,WA]
 .simp[Ow,s0]
def zVD{qs:L (Str×Int)}{q:Str×Int}(hl:qs.length<=1000):zk [s0,.o none<|.p<|.ml<|yS qs,s2,!.str q.1,!.int q.2]>.nx [s0,.o none<|.p<|.ml<|yS<|qs++[q],s2,!.str q.1,!.int q.2]:=by
 have l1:(sel q.1 qs).length<1000000:=by have:=Ra q.1 qs;omega
 have z:(yS qs).length<1000000:=by have:=Dk qs;simp[yS];omega
 by_cases h:q.1∈IH qs
 .let(h1,h2):=zVB h
  exists 0,zk,Ef,bS,FK,h1,h2,l1,KA,wB
 .let(h1,h2):=zVC h
  exists 0,zk,Ef,bS,FK,h1,h2,z,KA,wB
theorem zKT:∀(rs qs:L (Str×Int))(s3 s4:Sl),(qs++rs).length<=1000->∃z J,zJ (gT 2<|FE (gN 3)<|FE (gN 4) MF) zk (rs.map ZD) [s0,.o none<|.p<|.ml<|yS qs,s2,s3,s4]>.nx [s0,.o none<|.p<|.ml<|yS<|qs++rs,s2,z,J]
 | [],qs,s3,s4,_=>#[s3,s4,by simp[zJ]]
 |q::rs,qs,s3,s4,hl=>by
  let(z,J,ih):=zKT rs (qs++[q]) _ _ (by simp_all);refine#[z,J,?_];have hs:=zVD (s0:=s0) (s2:=s2) (qs:=qs) (q:=q) (by grind);rw[kA,yK (rfl) hs,ih];simp
theorem zKU:∀(ts:L Pl)(qs:L (Str×Int))(s2 s3 s4:Sl),(qs++ts.flatMap cG).length<=1000->∃O z J,zJ (gN 2) zy (ts.map fC) [s0,.o none<|.p<|.ml<|yS qs,s2,s3,s4]>.nx [s0,.o none<|.p<|.ml<|yS<|qs++ts.flatMap cG,O,z,J]
 | [],qs,s2,s3,s4,_=>#[s2,s3,s4,by simp[zJ]]
 |t::ts,qs,s2,s3,s4,hl=>by
  rw[OB,<- dB]at hl ⊢;let(z,J,e1):=zKT (s0:=s0) (s2:=!fC t) (cG t) qs s3 s4 (by grind);let(a,b,c,ih):=zKU ts _ _ _ _ hl;refine#[a,b,c,?_]
  have hs:zy [s0,.o none<|.p<|.ml<|yS qs,!fC t,s3,s4]>.nx [s0,.o none<|.p<|.ml<|yS<|qs++cG t,!fC t,z,J]:=by
   unfold zy
   exists xf,e1,KA,wB,GD,dG,zF,zQ,NF
  rw[kA,yK (rfl) hs,ih]
def zVE{ts:L Pl}(hl:(ts.flatMap cG).length<=1000):qL [.lst<|ts.map fC]>(.o none<|.p<|.ml<|yS<|ts.flatMap cG):=by
 let(a,b,c,e):=zKU (s0:=!.lst (ts.map fC)) ts [] .un .un .un (by simp_all);have k0:yS []=[]:=rfl;rw[k0]at e
 exists qL,Mh,v8,vS,Se,sY,Sl.isOwn,e,KA,wB,GD,dG,zF,gT,FE,MF,zQ,NF
def mE(ps:L Pl)(d:Int)(S:L Int):=(EM<|(run ps d 300 [] S).getD []:L Int)
theorem Po:∀{l:L Int},y∈LN x l↔y=x\/y∈l
 | []=>by simp[LN]
 |z::l=>by
  dsimp[LN];split
  .simp
  .dsimp[oA,Po];constructor
   .rintro(h|h|h)<;>simp[h]
   .rintro(h|h|h)<;>simp[h]
theorem Oi:∀{l:L Int},y∈EM l↔y∈l
 | []=>by simp[EM]
 |x::l=>by dsimp[EM,Po,Oi,oA]
theorem zKV:∀{l:L Int},(LN x l).length=l.length+1
 | []=>rfl
 |z::l=>by dsimp[LN];split<;>simp[zKV]
theorem xn:∀{l:L Int},(EM l).length=l.length
 | []=>rfl
 |x::l=>by dsimp[EM,zKV,xn,sA]
theorem zOA:∀{l:L Int},l.Pairwise (· < ·)->x∉l->(LN x l).Pairwise (· < ·)
 | [],_,_=>by simp[LN]
 |z::l,h,n=>by
  let(h1,h2):=YA.mp h;have O:x≠z:=λe=>n (by simp[e])
  have J:x∉l:=λe=>n (by simp[e])
  dsimp[LN];split
  .have hz:x<z:=01
   show YA.mpr #[λy hy=>by
    rcases oA.mp hy with rfl|hy
    .show hz
    .have:=h1 y hy;omega,h]
  .refine YA.mpr #[λy hy=>?_,zOA h2 J];rcases Po.mp hy with rfl|hy
   .omega
   .show h1 y hy
theorem zKW:∀{l:L Int},l.Nodup->(EM l).Pairwise (· < ·)
 | [],_=>by simp[EM]
 |x::l,h=>by
  let(h1,h2):=uB.mp h;show zOA (zKW h2) λhy=>h1<|Oi.mp hy
theorem Sq(h:zj m ps)(d:Int):∀(k:Nat)(found ws f:L Int),FH ps found->found.Nodup->FH ps ws->run ps d k found ws>f->FH ps f/\f.Nodup
 |0,_,_,_,_,_,_,e=>by simp[run]at e
 |k+1,found,ws,f,hf,hn,hi,e=>by
  unfold run at e
  cases q:ws.getLast? with
  |none=>rw[q]at e;cases e;show#[hf,hn]
  |some n=>
   rw[q]at e;simp at e;let(U,hp):=Cu q;have O:=hi n (by rw[U];simp);have J:FH ps _:=λx hx=>hi x<|(rH _).subset hx
   split at e
   .show Sq h d k _ _ f hf hn J e
   .rename_i hm;refine Sq h d k _ _ f (λx hx=>?_) ?_ (λx hx=>?_) e
    .rcases pA.mp hx with hx|hx
     .show hf x hx
     .simp at hx;subst hx;show O
    .show rB.mpr #[hn,by simp,λa ha b hb=>by simp at hb;subst hb;showλz=>hm<|z ▸ ha]
    .rcases pA.mp hx with hx|hx
     .show J x hx
     .show(Qx h d n).1 x hx
structure nO(ps:List Pl)(K:List Int):Prop where
 inn:FH ps K
 up:K.Pairwise (· < ·)
 len:K.length<=40
def CU(h:zj m ps)(d:Int){S:L Int}(hs:FH ps S)(hl:S.length<=100):nO ps (mE ps d S)/\GP [EB m ps,.int d,.tup<|S.map D.int]>(.tup<|(mE ps d S).map D.int):=by
 let(f,e1,z,e3):=zKP h d S hs hl;have J:mE ps d S=EM f:=by simp[mE,e1]
 let(O,i2):=Sq h d _ [] S f (λ_ hx=>by simp_all) (by simp) hs e1;rw[J];show#[#[λn hn=>O n<|Oi.mp hn,zKW i2,by rw[xn];show z],e3]
def zVF:RP (tk found) (.inl n) (.bl true)=tk (if n∈found then found else found++[n]):=by
 by_cases h:n∈found
 .rw[if_pos h];unfold RP;rw[if_pos]
  .unfold tk
   simp_all
  .simp[tk];show h
 .rw[if_neg h];show zSB h
def zOC(ps:L Pl)(d:Int)(S:L Int):(turns ps d S).length<=S.length:=JA (AD ..)<|xl ps S
def vain_step{ps:L Pl}(h:zj m ps)(hn:0<=n/\n<(ps.length:Int)){found:L Int}(hl:found.length<=1000):
  ∃J,J.length<=found.length+1/\(∀y,y∈J↔y∈found\/(y=n/\turns ps d (mE ps d [n])=[]))/\yu [!EB m ps,!.int d,.m<|tk found,!.int n]>.nx [!EB m ps,!.int d,.m<|tk J,!.int n]:=by
 have hi:FH ps [n]:=λx hx=>by simp at hx;subst hx;show hn
 let(a1,a2):=CU h d hi (by simp);have a3:=zN6 (m:=m) d a1.inn (by have:=a1.len;omega);simp at a2;have l1:(tk found).length<1000000:=by simp[tk];omega
 have e0:wB (.int (turns ps d<|mE ps d [n]).length) (.int 0)>(.bl<|decide<|((turns ps d<|mE ps d [n]).length:Int)=0):=by
  unfold wB;rw[if_pos<|by simp[LF]];unfold GD;rw[Dj]
 have pt:=zVF (n:=n) (found:=found);by_cases c:((turns ps d<|mE ps d [n]).length:Int)=0
 .rw[decide_eq_true c]at e0;refine#[if n∈found then found else found++[n],by split<;>simp,λy=>?_,?_]
  .have z:turns ps d (mE ps d [n])=[]:=aD.mp 01;dsimp[z,and_true];split
   .show#[.inl,λq=>q.elim id λq=>by subst q;assumption]
   .rw[pA,gA]
  exists 0,yu,a2,a3,e0,FK,l1,pt,KA
 .rw[decide_eq_false c]at e0;refine#[found,01,λy=>#[.inl,λq=>q.elim id λz=>absurd (by rw[z.2];rfl) c],?_]
  exists 0,yu,a2,a3,e0,FK,l1,pt,KA
def Rb(lo:Int)(n:Nat):(rng lo n).length=n:=by simp[rng]
def zOD{ps:L Pl}(h:zj m ps)(d:Int):∀n:Nat,n<=ps.length->∃(found:L Int)(s3:Sl),(∀y:Int,y∈found↔∃i:Nat,i<n/\y=(i:Int)/\turns ps d (mE ps d [y])=[])/\zJ (gN 3) yu (rng 0 n) [!EB m ps,!.int d,.m<|tk [],.un]>.nx [!EB m ps,!.int d,.m<|tk found,s3]:=by
 have hp:=h.n1
 have key:∀(is:L _)(found:L Int)(s3:Sl),(∀i∈is,i<ps.length)->found.length+is.length<=1000->∃(O:L _)(U:Sl),(∀y ,y∈O↔y∈found\/∃i∈is,y=i/\turns ps d (mE ps d [y])=[])/\zJ (gN 3) yu (is.map λ(i:Nat)=>D.int<|0+i) [!EB m ps,!.int d,.m<|tk found,s3]>.nx [!EB m ps,!.int d,.m<|tk O,U]:=by
  intro is
  induction is with
  |nil=>showλfound s3 _ _=>#[found,s3,λy=>#[.inl,λq=>q.elim id λ⟨_,z,_⟩=>nomatch z],rfl]
  |cons n is ih=>
   intro found s3 hi hl;have hn:=hi n eA;rw[sA]at hl;let(f',l',new,e'):=vain_step h (n:=n) 01 (found:=found) 01;let(f2,s2,J,Y):=ih f' _ (λi q=>hi i<|cA _ q) 01;refine#[f2,s2,λy=>(J y).trans ?_,?_]
   .rw[new];constructor
    .rintro((q|⟨rfl,q⟩)|⟨i,hi,q⟩)
     .show .inl q
     .show .inr #[n,eA,rfl,q]
     .show .inr #[i,cA _ hi,q]
    .rintro(q|⟨i,hi,rfl,q⟩)
     .show .inl<|.inl q
     .rcases oA.mp hi with rfl|hi
      .show .inl<|.inr #[rfl,q]
      .show .inr #[i,hi,rfl,q]
   .rw[kA,lD,yK rfl e',Y]
 intro n hn;let(f,s3,al,e):=key _ [] _ (λi q=>BA (VB.mp q) hn) (by simp;omega);show#[f,s3,λy=>(al y).trans #[λq=>q.elim (λz=>nomatch z) λ⟨i,hi,q⟩=>#[i,VB.mp hi,q],λ⟨i,hi,q⟩=>.inr #[i,VB.mpr hi,q]],e]
def zSE{ps:L Pl}(h:zj m ps)(d:Int):∃found,(∀n:Int,0<=n->n<(ps.length:Int)->(n∈found↔turns ps d (mE ps d [n])=[]))/\WX [EB m ps,.int d]>(.m<|tk found):=by
 have hp:=h.n1;let(found,s3,al,e):=zOD h d _<|wA _;refine#[found,λn n0 n1=>(al n).trans #[λ⟨_,_,_,z⟩=>z,λz=>#[n.toNat,01,01,z]],?_];have e0:KA (EB m ps) (.int 1)>(.tup<|ps.map fC):=by dsimp[EB,KA,bR]
 have J:tk []=[]:=rfl
 have e1:Ce [!EB m ps,!.int d,.un,.un]>(.ro<|.m<|tk found):=by
  refine(zI rfl).trans ((zI<|(sFor_eq<|KP ?_<|01).trans e).trans rfl);dsimp[zA,b1,b2,KU,e0,pH,ZA,dA,lA,VA]
 change(Ce [!EB m ps,!.int d,.un,.un]).bind vS=_;rw[e1];rfl
def zQ2(h0:0<=d)(h1:d<4)(K:L Int)(ts:L Pl)(found:L Int)(hl:K.length<=1000):∃r,((r=.ok .non/\(ts=[]\/∀n∈K,n∉found))\/(r=.error 0/\ts≠[]/\∃n∈K,n∈found))/\za [.int d,.tup<|K.map D.int,.lst<|ts.map fC] (.p<|.m<|tk found)>r:=by
 let(x,hx):=zX1 h0 h1
 have O:∀a:Addr,zF (gN 4) _ _ (K.map D.int) _>(K.map _).map D.bl:=λa=>by
  have:=zS (g:=gN 4) (p:=λ_=>some true) (f:=zW) (emb:=D.int) (ρ:=[!.int d,!.tup (K.map D.int),!.lst (ts.map fC),.b a<|.p<|.m<|tk found,.un]) (λ_=>true) (λn=>D.bl<|decide<|n∈found) K λn _=>by
   refine#[_,rfl,rfl,λ_=>?_];have gt:=Ry n found
   exists 0,zW,vW,FW,FK,gt,KA,wB
  rw[this,sC.mpr (by simp),UA];rfl
 have J:=A6 (K.map λn=>decide<|n∈found)
 have kf:(K.map λn=>decide<|n∈found).any id=false->∀n∈K,n∉found:=λq n hn hf=>by
  rw[kG]at q;show q _ (YB hn)<|decide_eq_true hf
 have Y:(K.map λn=>decide<|n∈found).any id=true->∃n∈K,n∈found:=λq=>by
  let(b,hb,e):=jF.mp q;let(n,hn,rfl):=QA.mp hb;show#[n,hn,of_decide_eq_true e]
 generalize (K.map λn=>decide<|n∈found)=bs at O J kf Y;have l1:K.length<=1000000:=01
 by_cases c:ts.length=0
 .refine#[.ok .non,.inl #[rfl,.inl<|aD.mp c],yc λa=>?_]
  exists Z7,zU,KR,oX,vR,c,KA,wB,GD,dG,gT,FE,MF,zQ,zJ,NF
 .have U:(0:Int)<(ts.length:Int):=01
  cases hb:bs.any id with
  |true=>
   refine#[.error 0,.inr #[rfl,λz=>c (by rw[z];rfl),Y hb],yc λa=>?_]
   exists Z7,zU,KR,oX,vR,U,O,l1,J,hb,hx,KA,wB,GD,dG,gT,FE,MF,zQ,zJ,NF
  |false=>
   refine#[.ok .non,.inl #[rfl,.inr<|kf hb],yc λa=>?_]
   exists Z7,zU,KR,oX,vR,U,O,l1,J,hb,hx,KA,wB,GD,dG,gT,FE,MF,zQ,zJ,NF
noncomputable def WP{α:Type}:L α->L (L α)
 | []=>[[]]
 |x::l=>WP l++(WP l).map (x :: ·)
theorem zKX{z:Type}:∀l:L z,(WP l).length=2 ^ l.length
 | []=>rfl
 |x::l=>by rw[WP,OA,lA,zKX l,sA];omega
def zKY{z:Type}{s l:L z}(h:s.Sublist l):s∈WP l:=by
 induction h with
 |slnil=>simp[WP]
 |cons a _ ih=>show pA.mpr<|.inl ih
 |cons_cons a _ ih=>show pA.mpr<|.inr<|QA.mpr #[_,ih,rfl]
theorem Cw{z:Type}[DecidableEq z]:∀{l Lv:L z},l.Nodup->(∀x∈l,x∈Lv)->l.length<=Lv.length
 | [],_,_,_=>LB _
 |x::l,Lv,h,k=>by
  let(h1,h2):=uB.mp h;have hx:=k x eA;have ih:=Cw h2 λy hy=>(List.mem_erase_of_ne<|λ(e:y=x)=>h1<|e ▸ hy).mpr<|k y<|cA _ hy
  grind
noncomputable def rW(e h:Int):Pl->L Int
 |.fin=>[]
 |.tell a b ch=>if a=e/\b=h then ch.map (·.2) else []
def mU(ps:L Pl)(e h:Int):=(ps.flatMap<|rW e h:L Int)
theorem k7(e h:Int):∀ps:L Pl,(mU ps e h).length=DI e h (ps.map fC)
 | []=>rfl
 |p::ps=>by
  have ih:=k7 e h ps;unfold mU at ih|-;rw[OB,OA,kA]
  congr 1
  cases p with
  |fin=>rfl
  |tell a b ch=>
   refine Eq.trans ?_ El.symm;dsimp[rW,pr];split<;>simp
def PQ(ps:L Pl)(d:Int):=(mE ps d [0]::[0,1,2,3].flatMap λ(e:Int)=>(WP<|mU ps e d).map (mE ps d)++(WP<|mU ps d e).map (mE ps d):L (L Int))
def cN(ps:L Pl):=(∀e h,DI e h (ps.map fC)<=20:Prop)
def Pp(hf:cN ps)(d:Int):(PQ ps d).length<=8388609:=by
 have p:∀e h,(WP<|mU ps e h).length<=1048576:=λe h=>by
  rw[zKX,k7];show JA (Nat.pow_le_pow_right 02<|hf e h) 02
 have a0:=p 0 d;have a1:=p 1 d;have a2:=p 2 d;have a3:=p 3 d;have b0:=p d 0;have b1:=p d 1;have b2:=p d 2;have b3:=p d 3;dsimp[PQ,OB,BJ,sA,OA,lA,aE];omega
def zQ3{z J:Type}{g:z->L J}{s l:L z}(h:s.Sublist l):(s.flatMap g).Sublist (l.flatMap g):=by
 induction h with
 |slnil=>simp
 |cons a _ ih=>show ih.trans<|List.sublist_append_right ..
 |cons_cons a _ ih=>show(Gb _).append ih
theorem zKZ{z J:Type}{f g:z->Op J}:∀{l:L z},(∀x∈l,f x=g x)->l.filterMap f=l.filterMap g
 | [],_=>rfl
 |x::l,h=>by rw[rC,rC,h x eA,zKZ λy hy=>h y<|cA _ hy]
theorem xp:∀(ps:L Pl)(off:Int)(K:L Int),K.Pairwise (· < ·)->(∀n∈K,off<=n/\n<off+(ps.length:Int))->(K.filterMap λn=>ps[(n-off).toNat]?).Sublist ps
 |[],off,K,_,h=>by
  cases K with
  |nil=>simp
  |cons n K=>have:=h n eA;simp at this;omega
 |p::ps,off,K,hp,h=>by
  have up:∀K:L _,K.Pairwise _->(∀n∈K,off<n/\n<off+(p::ps).length)->(K.filterMap λn=>(p::ps)[(n-off).toNat]?).Sublist ps:=λK hp h=>by
   have:=xp ps (off+1) K hp λn hn=>by have:=h n hn;simp at this;omega
   rw[zKZ λn hn=>by
    have:=h n hn;rw[show(n-off).toNat=(n-(off+1)).toNat+1 by omega,NB]]
   show this
  cases K with
  |nil=>simp
  |cons n K=>
   let(h1,h2):=YA.mp hp;have hn:=h n eA;by_cases e:n=off
   .subst e;rw[rC];dsimp[Int.sub_self,nX,ZA];show(up K h2 λx hx=>#[h1 x hx,(h x<|cA _ hx).2]).cons_cons p
   .refine(up _ hp λx hx=>#[?_,(h x hx).2]).cons p;rcases oA.mp hx with rfl|hx
    .omega
    .have:=h1 x hx;omega
def zOF(h:nO ps K)(d:Int):(turns ps d K).Sublist ps:=by
 have:=xp ps 0 K h.up λn hn=>by have:=h.inn n hn;omega
 simp at this;show(jP).trans this
def BH(ps:L Pl)(d:Int)(K:L Int):=((turns ps d K).flatMap cG:L (Str×Int))
def LQ(ps:L Pl)(d:Int)(K:L Int)(w:Str):=(mE ps d<|sel w<|BH ps d K:L Int)
noncomputable def DM(ps:L Pl)(d:Int)(K:L Int):Bool:=match turns ps d K with
 | []=>true
 |t::ts=>(t::ts).all λu=>decide<|ask u d=ask t d
def zSF(h:nO ps K)(ha:DM ps d K=true):BH ps d K=[]\/∃e h,(e=d\/h=d)/\(∃t∈turns ps d K,∃ch,t=.tell e h ch)/\((BH ps d K).map (·.2)).Sublist (mU ps e h):=by
 have sub:=zOF h d;have tt:∀t∈turns ps d K,pR t d=true:=λt ht=>(cD.mp ht).2
 unfold BH;unfold DM at ha
 cases e:turns ps d K with
 |nil=>left;rfl
 |cons t ts=>
  rw[e]at ha sub tt;dsimp[GB,decide_eq_true_eq]at ha
  have fin:∀e h,(∀u∈t::ts,∃ch,u=.tell e h ch)->((((t::ts).flatMap _)).map _).Sublist _:=λe h k=>by
   have e1:((t::ts).flatMap cG).map (·.2)=(t::ts).flatMap (rW e h):=by
    rw[List.map_flatMap]
    have Y:∀(l:L Pl),(∀u∈l,∃ch,u=.tell e h ch)->l.flatMap (λa=>(cG a).map (·.2))=l.flatMap (rW e h):=by
     intro l
     induction l with
     |nil=>intro _;rfl
     |cons u l ih=>
      intro k;let(ch,rfl):=k u eA;rw[OB,ih λv hv=>k v<|cA _ hv];simp[cG,rW]
    show Y _ k
   rw[e1];show zQ3 sub
  cases t with
  |fin=>
   left
   rw[LM];intro u J;have:=ha u J
   cases u with
   |fin=>rfl
   |tell a b ch=>dsimp[ask]at this;split at this<;>cases this
  |tell a b ch=>
   right
   by_cases c:a=d
   .subst c;refine#[a,b,.inl rfl,#[_,eA,ch,rfl],fin a b λu J=>?_];have:=ha u J
    cases u with
    |fin=>simp[ask]at this
    |tell U b' O=>
     dsimp[ask]at this;split at this
     .rename_i z;subst z;injection this with this _;subst this;show#[_,rfl]
     .cases this
   .have hb:b=d:=by
     have:=tt _ eA;dsimp[pR,tp,bH,decide_eq_true_eq]at this;rcases this with z|z
     .show absurd z.symm c
     .show z.symm
    subst hb;refine#[a,b,.inr rfl,#[_,eA,ch,rfl],fin a b λu J=>?_];have:=ha u J;have t2:=tt u J
    cases u with
    |fin=>simp[ask,c]at this
    |tell U b' O=>
     dsimp[ask,c]at this;split at this
     .cases this
     .rename_i z;cases this;dsimp[pR,tp,bH,decide_eq_true_eq]at t2;rcases t2 with q|q
      .show absurd q.symm z
      .subst q;show#[_,rfl]
def zVG(w:Str)(qs:L (Str×Int)):(sel w qs).Sublist (qs.map (·.2)):=Ga _<|jP
def Pq{ps:L Pl}(h:zj m ps)(z:t∈turns ps d K):cO m (λn=>0<=n/\n<(ps.length:Int)) t:=by
 have:=(cD.mp z).1;let(n,_,e):=aB.mp this;show h.ok t<|xA e
def zX2{ps:L Pl}(h:zj m ps){q:Str×Int}(hq:q∈BH ps d K):(0<=q.2/\q.2<(ps.length:Int))/\HH q.1:=by
 let(t,z,hc):=sD.mp hq;have ok:=Pq h z;refine#[ok.next hc,?_]
 cases t with
 |fin=>simp[cG]at hc
 |tell a b ch=>show ok.wd q hc
def zOG(h:zj m ps)(hf:cN ps)(hd:0<=d/\d<m)(hk:nO ps K)(ha:DM ps d K=true)(w:Str)(hw:w∈IH (BH ps d K)):
  LQ ps d K w∈PQ ps d/\FH ps (sel w<|BH ps d K)/\(sel w<|BH ps d K).length<=20:=by
 have inn:FH ps (sel w<|BH ps d K):=λn hn=>by
  let(q,hq,rfl):=QA.mp hn;show(zX2 h (cD.mp hq).1).1
 let(q,hq,_):=Qz.mp hw;rcases zSF hk ha with z|⟨e,e',J,⟨t,U,ch,rfl⟩,s⟩
 .simp_all
 .have s':=(zVG w _).trans s;have ok:=Pq h U;have hm:=h.m1;refine#[?_,inn,JA s'.length_le (by rw[k7];show hf _ _)];refine cA _<|sD.mpr ?_;have e0:=ok.a0;have e1:=ok.a1;have O:=ok.b0;have e3:=ok.b1;rcases J with rfl|rfl
  .show#[e',by rcases D8 O 01 with z|z|z|z<;>simp[z],pA.mpr<|.inr<|QA.mpr #[_,zKY s',rfl]]
  .show#[e,by rcases D8 e0 01 with z|z|z|z<;>simp[z],pA.mpr<|.inl<|QA.mpr #[_,zKY s',rfl]]
def Sr(hf:cN ps)(hk:nO ps K)(ha:DM ps d K=true):(BH ps d K).length<=20:=by
 rcases zSF hk ha with z|⟨e,e',_,_,s⟩
 .rw[z];simp
 .have:=s.length_le;rw[lA,k7]at this;show JA this<|hf _ _
noncomputable def zp(K:L Int):D:=.tup<|K.map D.int
noncomputable def fG(Ks:L (L Int))(K:L Int):Nat:=match Ks with
 | []=>0
 |K'::r=>if K'=K then 0 else fG r K+1
theorem zOI:∀{Ks:L (L Int)},K∈Ks->fG Ks K<Ks.length
 | [],h=>by simp at h
 |K'::r,h=>by
  unfold fG;split
  .simp
  .rename_i n;rcases oA.mp h with e|h
   .show absurd e.symm n
   .have:=zOI h;simp_all
theorem Cy(r:L (L Int)):∀{Ks:L (L Int)},K∈Ks->fG (Ks++r) K=fG Ks K
 | [],h=>by simp at h
 |K'::Ks,h=>by
  rw[MB];unfold fG;split
  .rfl
  .rename_i n;rcases oA.mp h with e|h
   .show absurd e.symm n
   .rw[Cy r h]
noncomputable def XO(i:Nat):L (L Int)->L (L kC×D)
 | []=>[]
 |K::r=>(K.map OD,.int i)::XO (i+1) r
abbrev z7(Ks:L (L Int)):L (L kC×D):=XO 0 Ks
def zOJ{K K':L Int}:K.map (OD:Int->kC)=K'.map OD↔K=K':=by
 constructor
 .intro h
  induction K generalizing K' with
  |nil=>simp_all
  |cons a K ih=>cases K' with
   |nil=>simp at h
   |cons b K'=>simp at h;rw[h.1,ih h.2]
 .rintro rfl;rfl
theorem Pr{K:L Int}:∀(Ks:L (L Int))(i:Nat),PF (XO i Ks) (K.map OD)=if K∈Ks then some (.int ((i+fG Ks K:Nat):Int)) else none
 | [],i=>rfl
 |K'::r,i=>by
  have ih:=Pr (K:=K) r<|i+1;unfold PF at ih|-;rw[XO,BB];by_cases e:K'=K
  .subst e;simp[fG]
  .have e1:¬ (K'.map OD)=K.map _:=λz=>e (zOJ.mp z)
   have J:¬ K=K':=λz=>e z.symm
   dsimp[e1,decide_false,oA,J,false_or,fG,e,if_false]
   grind
def zQ4{K:L Int}{Ks:L (L Int)}(h:K∉Ks):EY (z7 Ks) (K.map OD) (.int (Ks.length:Int))=z7 (Ks++[K]):=by
 have g:∀(Ks:L _)(i:Nat),K∉Ks->((XO i Ks).any λkv=>decide<|kv.1=K.map OD)=false/\XO i Ks++[(K.map OD,.int (i+Ks.length:Nat))]=XO i (Ks++[K]):=by
  intro Ks
  induction Ks with
  |nil=>intro i _;show#[rfl,rfl]
  |cons K' r ih=>
   intro i h;let(h1,h2):=ih _ λz=>h<|cA _ z
   refine#[?_,?_]
   .rw[XO,GE,h1,dI];show decide_eq_false λz=>h (by rw[zOJ.mp z];simp)
   .rw[XO,MB,MB,XO,<- h2,sA,show i+(r.length+1)=i+1+r.length by omega]
 let(h1,h2):=g Ks 0 h;unfold EY;rw[h1];rw[lJ]at h2;show h2
theorem zKa:∀(Ks:L (L Int))(i:Nat),(XO i Ks).length=Ks.length
 | [],_=>rfl
 |K::r,i=>by rw[XO,sA,zKa r,sA]
def zOK(K:L Int):HM (zp K)>K.map OD:=by
 have:∀K:L _,W7 (K.map D.int)>K.map OD:=by
  intro K
  induction K with
  |nil=>rfl
  |cons n K ih=>simp[W7,FK,ih]
 show this K
def zSG(w:Str)(n:Int):D.tup [.str w,.int n]=ZD (w,n):=rfl
noncomputable def vH(Ks:L (L Int))(N:L Int):L (L Int):=if N∈Ks then Ks else Ks++[N]
def Cz(Ks:L (L Int))(N:L Int):N∈vH Ks N:=by unfold vH;split<;>simp[*]
def zKb(Ks:L (L Int))(N:L Int):∃r,vH Ks N=Ks++r:=by
 unfold vH;split
 .simp_all
 .show#[[N],rfl]
def zOL{Ks:L (L Int)}(h:Ks.Nodup):(vH Ks N).Nodup:=by
 unfold vH;split
 .show h
 .rename_i n;show rB.mpr #[h,by simp,λa ha b hb=>by simp at hb;subst hb;showλz=>n<|z ▸ ha]
def zOM{Ks:L (L Int)}{qs prs:L (Str×Int)}(hw:w∈IH qs)(ha:GP [EB m ps,.int d,.tup<|(sel w qs).map D.int]>(zp<|mE ps d<|sel w qs))(hk:Ks.length<16000000)(hp:prs.length<16000000):
  Bg [!EB m ps,!.int d,s2,.l<|Ks.map zp,.o none<|.p<|.t<|z7 Ks,s5,s6,s7,s8,.o none<|.p<|.ml<|yS qs,.l<|prs.map ZD,!.str w,s12] =
   some (.nx [!EB m ps,!.int d,s2,.l<|(vH Ks<|mE ps d<|sel w qs).map zp,.o none<|.p<|.t<|z7<|vH Ks<|mE ps d<|sel w qs,s5,s6,s7,s8,.o none<|.p<|.ml<|yS qs,.l<|(prs++[(w,(fG (vH Ks<|mE ps d<|sel w qs) (mE ps d<|sel w qs):Int))]).map ZD,!.str w,.v<|zp<|mE ps d<|sel w qs]):=by
 have g:PF (yS qs) (.inr w)>(sel w qs).map D.int:=by unfold yS;rw[Cv _,if_pos hw]
 generalize mE ps d _=N at *;have U:=zOK N;have J:=Pr (K:=N) Ks 0;have Y:=Pr (K:=N) (vH Ks N) 0;rw[if_pos<|Cz Ks N]at Y;have nl:=zKa Ks 0;refine(zI (ρ':=[!EB m ps,!.int d,s2,.l<|Ks.map zp,.o none<|.p<|.t<|z7 Ks,s5,s6,s7,s8,.o none<|.p<|.ml<|yS qs,.l<|prs.map ZD,!.str w,!zp N]) ?_).trans ?_
 .exists 0,To,bS,FK,g,ha,KA,wB
 .have s1:(DE (w8 4<|gV 12) (sq (Ew 4 (gV 12)<|b1 (gR 3) pH)<|vJ 3<|gV 12)<|λρ=>some<|Out.nx ρ) [!EB m ps,!.int d,s2,.l<|Ks.map zp,.o none<|.p<|.t<|z7 Ks,s5,s6,s7,s8,.o none<|.p<|.ml<|yS qs,.l<|prs.map ZD,!.str w,!zp N] =
   some (.nx [!EB m ps,!.int d,s2,.l<|(vH Ks N).map zp,.o none<|.p<|.t<|z7<|vH Ks N,s5,s6,s7,s8,.o none<|.p<|.ml<|yS qs,.l<|prs.map ZD,!.str w,!zp N]):=by
   by_cases c:N∈Ks
   .rw[if_pos c]at J;have O:vH Ks N=Ks:=by simp[vH,c]
    rw[O]
    exists 0,w8,QT,U,J,BO,KA,wB
   .rw[if_neg c]at J;have O:vH Ks N=Ks++[N]:=by simp[vH,c]
    have np:=zQ4 c;rw[O];have ZT:(XO 0 Ks).length<16000000:=by rw[nl];show hk
    exists 0,w8,QT,Ew,U,J,Option.isSome_none,ZT,hk,np,uA,KA,wB
  refine(zI s1).trans ?_
  exists 0,oW,QT,U,Y,hp,uA,zSG,KA,wB
theorem jz(B:Nat)(hB:B<12000000)(pl:L (L Int))(eE:pl.length<=B)(ha:∀w∈IH qs,mE ps d (sel w qs)∈pl/\GP [EB m ps,.int d,.tup<|(sel w qs).map D.int]>(zp<|mE ps d<|sel w qs)):
  ∀(ws:L Str)(Ks:L (L Int))(prs:L (Str×Int))(s11 s12:Sl),(∀w∈ws,w∈IH qs)->Ks.Nodup->(∀K∈Ks,K∈pl)->prs.length+ws.length<16000000 ->
   ∃r Y U,Ks++r=ws.foldl (λKs w=>vH Ks<|mE ps d<|sel w qs) Ks/\(Ks++r).Nodup/\(∀K∈Ks++r,K∈pl)/\(∀w∈ws,mE ps d (sel w qs)∈Ks++r) /\
    zJ (gN 11) Bg (ws.map D.str) [!EB m ps,!.int d,s2,.l<|Ks.map zp,.o none<|.p<|.t<|z7 Ks,s5,s6,s7,s8,.o none<|.p<|.ml<|yS qs,.l<|prs.map ZD,s11,s12] =
     some (.nx [!EB m ps,!.int d,s2,.l<|(Ks++r).map zp,.o none<|.p<|.t<|z7<|Ks++r,s5,s6,s7,s8,.o none<|.p<|.ml<|yS qs,.l<|(prs++ws.map λw=>(w,(fG (Ks++r) (mE ps d<|sel w qs):Int))).map ZD,Y,U])
 | [],Ks,prs,s11,s12,_,hn,hs,_=>#[[],s11,s12,WA _,‹hn›,‹hs›,by simp,by simp[zJ]]
 |w::ws,Ks,prs,s11,s12,hw,hn,hs,hl=>by
  have ZV:=hw w eA;let(a1,a2):=ha w ZV;rw[sA]at hl;have kl:=Cw hn hs;let(r1,Hd):=zKb Ks _;have st:=zOM (s2:=s2) (s5:=s5) (s6:=s6) (s7:=s7) (s8:=s8) (s12:=s12) (Ks:=Ks) (prs:=prs) ZV a2 01 01;have O0:=zOL (N:=mE ps d<|sel w qs) hn;have oR:=Cz Ks<|mE ps d<|sel w qs
  have BN:∀K∈vH Ks (mE ps d<|sel w qs),K∈pl:=λK hK=>by
   unfold vH at hK;split at hK
   .show hs K hK
   .rcases pA.mp hK with hK|hK
    .show hs K hK
    .simp at hK;subst hK;show a1
  let(r,Y,U,J,i1,i2,i3,i4):=jz B hB pl eE ha ws _ (prs++[(w,(fG (vH Ks _) _:Int))]) _ _ (λv hv=>hw v<|cA _ hv) O0 BN (by simp;omega);have ix:=Cy r oR;rw[<- HD]at J;rw[Hd]at st J i1 i2 i3 i4 ix oR;rw[dB]at J i1 i2 i3;refine#[r1++r,Y,U,J,i1,i2,λv hv=>?_,?_]
  .rcases oA.mp hv with rfl|hv
   .rw[<- dB];show pA.mpr<|.inl oR
   .show i3 v hv
  .rw[kA,yK rfl st,i4,<- ix];simp
def BR{F G:XA->Op TF}(h:F ρ>(.o<|.nx ρ')):xG F G ρ=G ρ':=by dsimp[xG,h,dA]
def R7{F G:XA->Op TF}(h:F ρ>.ex c):xG F G ρ>.ex c:=by dsimp[xG,h,dA]
def IU{F:AB}(h:F ρ>o):oX F ρ>.o o:=by dsimp[oX,h,VA]
inductive St where
 |fin|rests|act (t:Bool) (o:Int) (prs:List (Str×Int))
def QD:St->D
 |.fin=>.tup [.str "end"]
 |.rests=>.tup [.str "rests"]
 |.act t o prs=>.tup [.str<|if t then "tells" else "hears",.int o,.tup<|prs.map ZD]
def yL(ps:L Pl)(d:Int)(K:L Int):=(KL<|IH<|BH ps d K:L Str)
def oO(ps:L Pl)(d:Int)(Ks:L (L Int))(K:L Int):=((yL ps d K).map λw=>(w,(fG Ks (LQ ps d K w):Int)):L (Str×Int))
noncomputable def RJ(ps:L Pl)(d:Int)(Ks:L (L Int))(K:L Int):St:=match turns ps d K with
 | []=>.rests
 |t::_=>match ask t d with
  |.fin=>.fin
  |.tells b _=>.act true b<|oO ps d Ks K
  |.hears a=>.act false a<|oO ps d Ks K
def En(ps:L Pl)(d:Int)(Ks:L (L Int))(K:L Int):=(∀w∈yL ps d K,LQ ps d K w∈Ks:Prop)
def zQ5(h:En ps d Ks K)(r:L (L Int)):RJ ps d (Ks++r) K=RJ ps d Ks K:=by
 have:oO ps d _ K=oO ps d Ks K:=uC λw hw=>by rw[Cy r<|h w hw]
 unfold RJ;rw[this]
def Ss(x:Ask):JI (match x with | .fin=>D.str "end" | .tells _ _=>D.str "tells" | .hears _=>D.str "hears") (.tup [.str "tells",.str "hears"])>.bl (match x with | .fin=>false|_=>true):=by
 cases x<;>(rfl)
def zQ6:JI (D.str "rests") (.tup [.str "tells",.str "hears"])>.bl false:=rfl
noncomputable def LS(ps:L Pl)(d:Int)(K:L Int):D:=match turns ps d K with
 | []=>.tup [.str "rests"]
 |t::_=>zX<|ask t d
def zVH{DC:L St}(hl:DC.length<16000000):
  (vJ 5<|wW (bB<|b2 (b2 (gR 8) (zC 0) KA) (λρ=>((zA (λ_=>some<|D.str "tells")<|zA (λ_=>some<|D.str "hears") zE) ρ).map D.tup) JI) (λρ=>((zA (b2 (gR 8) (zC 0) KA)<|zA (b2 (gR 8) (zC 1) KA)<|zA (b1 (gR 10) OH) zE) ρ).map D.tup)<|gV 8)
   [s0,s1,s2,s3,s4,.l<|DC.map QD,s6,s7,!LS ps d K,s9,.l<|(oO ps d Ks K).map ZD,s11,s12] =
   some (.nx [s0,s1,s2,s3,s4,.l<|(DC++[RJ ps d Ks K]).map QD,s6,s7,!LS ps d K,s9,.l<|(oO ps d Ks K).map ZD,s11,s12]):=by
 unfold LS RJ
 cases turns ps d K with
 |nil=>
  have z:KA (.tup [.str "rests"]) (.int 0)>.str "rests":=by dsimp[KA,FJ]
  exists 0,wW,z,zQ6,hl,uA,QD,wB
 |cons t ts=>
  simp only;generalize ask t d=x
  cases x with
  |fin=>
   have z:KA (zX .fin) (.int 0)>.str "end":=by dsimp[zX,KA,FJ]
   have J:=Ss .fin
   exists 0,wW,z,J,hl,uA,QD,wB
   rfl
  |tells b ws=>
   have z:KA (zX<|.tells b ws) (.int 0)>.str "tells":=by dsimp[zX,KA,FJ]
   have O:KA (zX<|.tells b ws) (.int 1)>.int b:=by dsimp[zX,KA,bR]
   have J:=Ss<|.tells b ws
   exists 0,wW,z,O,J,hl,uA,QD,wB
  |hears a=>
   have z:KA (zX<|.hears a) (.int 0)>.str "hears":=by dsimp[zX,KA,FJ]
   have O:KA (zX<|.hears a) (.int 1)>.int a:=by dsimp[zX,KA,bR]
   have J:=Ss<|.hears a
   exists 0,wW,z,O,J,hl,uA,QD,wB
def Mn:w∈yL ps d K↔w∈IH (BH ps d K):=Cc
def zQ7(qs:L (Str×Int)):(yS qs).map (λq=>UP q.1)=(IH qs).map D.str:=by
 unfold yS;rw[UA];rfl
def zOO{l:L Str}(h:l.length<64):JQ (.lst<|l.map D.str)>(KL l).map D.str:=wx h
def zX3{ps:L Pl}(h:zj m ps)(hn:n∈mU ps e e'):0<=n/\n<(ps.length:Int):=by
 let(p,hp,hm):=sD.mp hn
 cases p with
 |fin=>simp[rW]at hm
 |tell a b ch=>
  dsimp[rW]at hm;split at hm
  .let(q,hq,rfl):=QA.mp hm;show(h.ok _ hp:X9 _ _ _ _ _).nx q hq
  .simp at hm
theorem Rc{z:Type}{s:L z}:∀{l:L z},s∈WP l->s.Sublist l
 | [],h=>by simp[WP]at h;subst h;simp
 |x::l,h=>by
  rcases pA.mp h with h|h
  .show(Rc h).cons x
  .let(s',h',rfl):=QA.mp h;show(Rc h').cons_cons x
def zQ8(h:zj m ps)(hf:cN ps)(hK:K∈PQ ps d):nO ps K:=by
 have one:∀e e' S,S∈WP (mU ps e e')->nO ps _:=λe e' S z=>by
  have s:=Rc z;refine(CU h d (λn hn=>zX3 h<|s.subset hn) ?_).1;have:=s.length_le;rw[k7]at this;have:=hf e e';omega
 rcases oA.mp hK with rfl|hK
 .show(CU h d (λn hn=>by simp at hn;subst hn;have:=h.n0;omega)<|by simp).1
 .let(e,_,hK):=sD.mp hK;rcases pA.mp hK with hK|hK
  .let(S,z,rfl):=QA.mp hK;show one _ _ S z
  .let(S,z,rfl):=QA.mp hK;show one _ _ S z
structure PS(m:Int)(ps:List Pl)(d:Int):Prop where
 dn:zj m ps
 few:cN ps
 d0:0<=d
 d1:d<m
def kO(ps:L Pl)(d:Int)(Ks:L (L Int))(K:L Int):=((yL ps d K).foldl (λKs w=>vH Ks<|LQ ps d K w) Ks:L (L Int))
def CT(ps:L Pl)(d:Int)(K:L Int):=(DM ps d K=false\/(turns ps d K≠[]/\∃n∈K,turns ps d (mE ps d [n])=[]):Prop)
structure XS(ps:List Pl)(d:Int)(vs:List Int)(Ks:List (List Int))(DC:List St):Prop where
 nd:Ks.Nodup
 pl:∀K∈Ks,K∈PQ ps d
 st:∀K∈Ks,nO ps K
 le:DC.length<=Ks.length
 cl:∀K∈Ks.take DC.length,En ps d Ks K/\DM ps d K=true/\(turns ps d K=[]\/∀n∈K,n∉vs)
 eq:DC=(Ks.take DC.length).map (RJ ps d Ks)
def XS.len{ps:L Pl}{d:Int}{vs:L Int}{Ks:L (L Int)}{DC:L St}(I:XS ps d vs Ks DC)(hf:cN ps):Ks.length<=8388609:=JA (Cw I.nd I.pl)<|Pp hf d
def zX4{xs ys:L D}:yQ [s0,s1,s2,.l xs,s4,.l ys,s6,s7,s8,s9,s10,s11,s12]>(decide<|ys.length<xs.length):=by
 exists 0,yQ,KA,wB
 simp_all
def xq{ps:L Pl}(h:PS m ps d){Ks:L (L Int)}{DC:L St}(I:XS ps d vs Ks DC)(hl:DC.length<Ks.length)(hv:∀n:Int,0<=n->n<(ps.length:Int)->(n∈vs↔turns ps d (mE ps d [n])=[]))(s6 s7 s8 s9 s10 s11 s12:Sl):
  (CT ps d Ks[DC.length]/\yD [!EB m ps,!.int d,.m<|tk vs,.l<|Ks.map zp,.o none<|.p<|.t<|z7 Ks,.l<|DC.map QD,s6,s7,s8,s9,s10,s11,s12]>.ex 0) \/
  ¬ CT ps d Ks[DC.length] /\
  ∃r st OF eJ IL fW DN Y U,Ks++r=kO ps d Ks Ks[DC.length]/\XS ps d vs (Ks++r) (DC++[st])/\yD [!EB m ps,!.int d,.m<|tk vs,.l<|Ks.map zp,.o none<|.p<|.t<|z7 Ks,.l<|DC.map QD,s6,s7,s8,s9,s10,s11,s12] =
   some (.o<|.nx [!EB m ps,!.int d,.m<|tk vs,.l<|(Ks++r).map zp,.o none<|.p<|.t<|z7<|Ks++r,.l<|(DC++[st]).map QD,OF,eJ,IL,fW,DN,Y,U]):=by
 have d4:d<4:=by have:=h.dn.m1;have:=h.d1;omega
 have hK:Ks[DC.length]?>Ks[DC.length]:=by simp[hl]
 generalize Ks[DC.length]=K at hK|-;have mK:K∈Ks:=xA hK;have O:=I.st K mK;have lK:=O.len;have kl:=I.len h.few
 have i1:KA (.lst<|Ks.map zp) (.int (DC.length:Int))>zp K:=by
  have:¬ ((DC.length:Int)<0):=01
  have hg:Ks[DC.length]=K:=by rw[xB hl]at hK;show KB hK
  simp[KA,EF,WG,hl,hg]
 have mt:=zN6 (m:=m) d O.inn 01;let(r,hr,mr):=zQ2 h.d0 d4 K (turns ps d K) vs 01;have tl:=zOC ps d K;have ma:=zJN h.d0 d4 (turns ps d K) 01 λt ht=>(Pq h.dn ht).few
 unfold yD
 have q1:∀G:XA->Op TF,xG (oX<|zw 6<|b2 (gR 3) (b1 (gR 5) pH) KA) G [!EB m ps,!.int d,.m<|tk vs,.l<|Ks.map zp,.o none<|.p<|.t<|z7 Ks,.l<|DC.map QD,s6,s7,s8,s9,s10,s11,s12]=G [!EB m ps,!.int d,.m<|tk vs,.l<|Ks.map zp,.o none<|.p<|.t<|z7 Ks,.l<|DC.map QD,!zp K,s7,s8,s9,s10,s11,s12]:=λG=>
  BR (IU (by exists 0,i1,wB))
 have q2:∀G:XA->Op TF,xG (oX<|zw 7<|λρ=>((zA (gV 0)<|zA (gV 1)<|zA (gV 6) zE) ρ).bind yZ) G [!EB m ps,!.int d,.m<|tk vs,.l<|Ks.map zp,.o none<|.p<|.t<|z7 Ks,.l<|DC.map QD,!zp K,s7,s8,s9,s10,s11,s12]=G [!EB m ps,!.int d,.m<|tk vs,.l<|Ks.map zp,.o none<|.p<|.t<|z7 Ks,.l<|DC.map QD,!zp K,!.lst ((turns ps d K).map fC),s8,s9,s10,s11,s12]:=λG=>
  BR (IU (by exists 0,zp,mt,wB))
 have e3:(Rz<|Tp 2 (oV (gV 1)<|oV (gV 6)<|oV (gV 7) zE) za) [!EB m ps,!.int d,.m<|tk vs,.l<|Ks.map zp,.o none<|.p<|.t<|z7 Ks,.l<|DC.map QD,!zp K,!.lst ((turns ps d K).map fC),s8,s9,s10,s11,s12]=(some r:Op (Except Nat D)).map (λr=>match r with | .ok _=>.o (.nx [!EB m ps,!.int d,.m<|tk vs,.l<|Ks.map zp,.o none<|.p<|.t<|z7 Ks,.l<|DC.map QD,!zp K,!.lst ((turns ps d K).map fC),s8,s9,s10,s11,s12]) | .error c=>.ex c):=by
  rw[<- mr];rfl
 rw[q1,q2];rcases hr with⟨rfl,nv⟩|⟨rfl,tn,n,hn,nS⟩
 .rw[BR e3];by_cases al:DM ps d K=true
  .right
   refine#[λb=>?_,?_]
   .rcases b with b|⟨b,n,hn,z⟩
    .rw[al]at b;cases b
    .show(nv.resolve_left b) n hn ((hv n (O.inn n hn).1 (O.inn n hn).2).mpr z)
   have Jw:zt [.lst<|(turns ps d K).map fC,.int d]>(.ok<|LS ps d K):=by
    rw[ma];unfold DM at al;unfold LS Em
    cases e:turns ps d K with
    |nil=>rfl
    |cons t ts=>rw[e]at al;simp only at al|-;rw[if_pos al]
   have qf:=Sr h.few O al;have nx:=λw hw=>zOG h.dn h.few #[h.d0,h.d1] O al w hw
   have ap:=λw (hw:w∈IH (BH ps d K))=>CU h.dn d (nx w hw).2.1 (by have:=(nx w hw).2.2;omega)
   have mn:=zVE (ts:=turns ps d K) (by change(BH ps d K).length<=1000;omega);have wl:=Dk<|BH ps d K;have sl:(yL ps d K).length<=20:=by unfold yL;rw[M6];omega
   have so:=zOO (l:=IH<|BH ps d K) 01;let(J,Y,U,p0,p1,p2,p3,p4):=jz (m:=m) (ps:=ps) (d:=d) (s2:=.m<|tk vs) (s5:=.l<|DC.map QD) (s6:=!zp K) (s7:=!.lst ((turns ps d K).map fC)) (s8:=!LS ps d K) (qs:=BH ps d K) 8388609 02 (PQ ps d) (Pp h.few d) (λw hw=>#[(nx w hw).1,(ap w hw).2]) (yL ps d K) Ks [] s11 s12 (λw hw=>Mn.mp hw) I.nd I.pl (by simp;omega);have ePr:([]++(yL ps d K).map λw=>(w,(fG (Ks++J) (mE ps d<|sel w<|BH ps d K):Int)))=oO ps d (Ks++J) K:=by rw[WB];rfl
   rw[ePr,nC]at p4;refine#[J,RJ ps d (Ks++J) K,!zp K,!.lst ((turns ps d K).map fC),!LS ps d K,.o none<|.p<|.ml<|yS<|BH ps d K,.l<|(oO ps d (Ks++J) K).map ZD,Y,U,p0,?_,?_]
   .have cK:En ps d (Ks++J) K:=p3
    have Ae:(Ks++J).take (DC++[RJ ps d (Ks++J) K]).length=Ks.take DC.length++[K]:=by
     rw[OA,cC,List.take_append_of_le_length<|01,List.take_succ,hK];rfl
    refine#[p1,p2,λK' WI=>?_,by simp;omega,λK' WI=>?_,?_]
    .rcases pA.mp WI with WI | WI
     .show I.st K' WI
     .show zQ8 h.dn h.few<|p2 K'<|pA.mpr<|.inr WI
    .rw[Ae]at WI;rcases pA.mp WI with WI | WI
     .let(c1,c2):=I.cl K' WI;show#[λw hw=>pA.mpr<|.inl<|c1 w hw,c2]
     .simp at WI;subst WI;show#[cK,al,nv]
    .rw[Ae,uA,List.map_singleton]
     congr 1
     rw[show(Ks.take DC.length).map (RJ ps d<|Ks++J)=(Ks.take DC.length).map (RJ ps d Ks) from uC λK' WI=>zQ5 (I.cl K' WI).1 J];show I.eq
   .refine(BR (ρ':=[!EB m ps,!.int d,.m<|tk vs,.l<|Ks.map zp,.o none<|.p<|.t<|z7 Ks,.l<|DC.map QD,!zp K,!.lst ((turns ps d K).map fC),!LS ps d K,s9,s10,s11,s12]) ?_).trans ?_
    .exists 0,Fe,Jw,wB
    .refine IU ?_;refine(zI (ρ':=[!EB m ps,!.int d,.m<|tk vs,.l<|Ks.map zp,.o none<|.p<|.t<|z7 Ks,.l<|DC.map QD,!zp K,!.lst ((turns ps d K).map fC),!LS ps d K,.o none<|.p<|.ml<|yS<|BH ps d K,s10,s11,s12]) ?_).trans ?_
     .exists 0,HR,mn,wB
      rfl
     .refine(zI<|(sFor_eq (ds:=(yL ps d K).map D.str) ?_).trans p4).trans ?_
      .exists 0,Sf,bS,zQ7,so,yL,wB
      .show zVH 01
  .left
   refine#[.inl ‹al›,R7 ?_]
   have Jw:zt [.lst<|(turns ps d K).map fC,.int d]>.error 0:=by
    rw[ma];unfold DM at al;unfold Em
    cases e:turns ps d K with
    |nil=>rw[e]at al;show absurd rfl al
    |cons t ts=>rw[e]at al;simp only at al|-;rw[if_neg al]
   exists 0,Fe,Jw,wB
 .left;show#[.inr #[tn,n,hn,(hv n (O.inn n hn).1 (O.inn n hn).2).mp nS],R7 e3]
def zOP{c:QE}{F:XA->Op TF}(h:c ρ>true)(e:F ρ>(.o<|.nx ρ')):jO c F (k+1) ρ=jO c F k ρ':=by
 dsimp[jO,h,dA,if_true,e]
def zOQ{c:QE}{F:XA->Op TF}(h:c ρ>true)(e:F ρ>.ex n):jO c F (k+1) ρ>.ex n:=by
 dsimp[jO,h,dA,if_true,e]
def zLj{c:QE}{F:XA->Op TF}(h:c ρ>false):jO c F (k+1) ρ>(.o<|.nx ρ):=by
 simp[jO,h]
def GK(ps:L Pl)(d:Int):Nat->Nat->L (L Int)->Op (L<|L Int)
 |0,_,_=>none
 |k+1,i,Ks=>match Ks[i]? with
  |none=>some Ks
  |some K=>open Classical in if CT ps d K then none else GK ps d k (i+1) (kO ps d Ks K)
theorem xr{ps:L Pl}(h:PS m ps d)(vs:L Int)(hv:∀n:Int,0<=n->n<(ps.length:Int)->(n∈vs↔turns ps d (mE ps d [n])=[])):∀(n:Nat)(Ks:L (L Int))(DC:L St)(s6 s7 s8 s9 s10 s11 s12:Sl),XS ps d vs Ks DC->8388609<n+DC.length ->
  (GK ps d n DC.length Ks=none/\jO yQ yD n [!EB m ps,!.int d,.m<|tk vs,.l<|Ks.map zp,.o none<|.p<|.t<|z7 Ks,.l<|DC.map QD,s6,s7,s8,s9,s10,s11,s12]>.ex 0) \/
  ∃r DQ OF eJ IL fW U Y O,GK ps d n DC.length Ks>Ks++r/\XS ps d vs (Ks++r) DQ/\DQ.length=(Ks++r).length/\jO yQ yD n [!EB m ps,!.int d,.m<|tk vs,.l<|Ks.map zp,.o none<|.p<|.t<|z7 Ks,.l<|DC.map QD,s6,s7,s8,s9,s10,s11,s12] =
   some (.o<|.nx [!EB m ps,!.int d,.m<|tk vs,.l<|(Ks++r).map zp,.o none<|.p<|.t<|z7<|Ks++r,.l<|DQ.map QD,OF,eJ,IL,fW,U,Y,O])
 |0,Ks,DC,s6,s7,s8,s9,s10,s11,s12,I,hn=>by have:=I.len h.few;have:=I.le;omega
 |n+1,Ks,DC,s6,s7,s8,s9,s10,s11,s12,I,hn=>by
  have tp:=zX4 (s0:=!EB m ps) (s1:=!.int d) (s2:=.m<|tk vs) (s4:=.o none<|.p<|.t<|z7 Ks) (s6:=s6) (s7:=s7) (s8:=s8) (s9:=s9) (s10:=s10) (s11:=s11) (s12:=s12) (xs:=Ks.map zp) (ys:=DC.map QD);rw[lA,lA]at tp;by_cases hl:DC.length<Ks.length
  .rw[decide_eq_true hl]at tp;have pn:GK ps d (n+1) DC.length Ks=open Classical in if CT ps d Ks[DC.length] then none else GK ps d n (DC.length+1) (kO ps d Ks Ks[DC.length]):=by rw[GK,xB hl]
   rcases xq h I hl hv s6 s7 s8 s9 s10 s11 s12 with⟨b,e⟩|⟨b,r,st,a6,a7,a8,a9,Vg,Vh,Vi,ea,I',e⟩
   .left;show#[by rw[pn,if_pos b],zOQ tp e]
   .rw[pn,if_neg b,<- ea,zOP tp e];rcases xr h vs hv n (Ks++r) _ a6 a7 a8 a9 Vg Vh Vi I' (by simp;omega) with e' | ⟨r',DQ,b6,b7,b8,b9,b10,b11,b12,J0,J,jl,e'⟩
    .left;rw[OA]at e';show e'
    .right
     rw[OA]at J0;rw[dB]at J0 J jl e';show#[r++r',DQ,b6,b7,b8,b9,b10,b11,b12,J0,J,jl,e']
  .rw[decide_eq_false hl]at tp
   right
   refine#[[],DC,s6,s7,s8,s9,s10,s11,s12,by rw[GK,RN<|01,WA],‹I›,by have:=I.le;simp;omega,?_];rw[zLj tp,WA]
structure IsPart(ps:List Pl)(d:Int)(Ks:List (List Int)):Prop where
 nd:Ks.Nodup
 ze:Ks[0]?>mE ps d [0]
 st:∀K∈Ks,nO ps K
 cl:∀K∈Ks,En ps d Ks K
 al:∀K∈Ks,DM ps d K=true
 nv:∀K∈Ks,turns ps d K≠[]->∀x∈K,turns ps d (mE ps d [x])≠[]
 le:Ks.length<=8388609
def Fp(ps:L Pl)(d:Int)(Ks:L (L Int)):=(.tup<|(Ks.map<|RJ ps d Ks).map QD:D)
theorem zVI{N:L Str}{F:XA->Op TF}{ds:L D}(h:ds.map Sl.v++nA (N.length-ds.length) .un=ρ):aX N F ds=(F ρ).bind λo=>match o with
  |.o (.rt d)=>some<|.ok d
  |.o (.nx _)=>some<|.ok .non
  |.ex c=>some<|.error c
  |_=>none:=by subst h;rfl
def Pt{fl:FD}{F:L D->Op Sl}{ρ:XA}(h1:fl ρ>ds)(h2:F ds>s):HR i fl F ρ>(.nx<|ρ.set i s):=by
 unfold HR;simp_all
def zX5(h:PS m ps d)(N:Nat)(Y:8388609<N):
  (GK ps d N 0 [mE ps d [0]]=none/\(xG (oX<|HR 2 (zA (gV 0)<|zA (gV 1) zE) WX)<|xG (oX<|yJ 3<|zA (λρ=>((zA (gV 0)<|zA (gV 1)<|zA (λρ=>((zA (zC 0) zE) ρ).map D.tup) zE) ρ).bind GP) zE)<|xG (oX<|tY 4 (b2 (gR 3) (zC 0) KA)<|zC 0)<|xG (oX<|yJ 5 zE)<|xG (h7 N yQ yD)<|oX<|qc<|b1 (gR 5) OH) [!EB m ps,!.int d,.un,.un,.un,.un,.un,.un,.un,.un,.un,.un,.un]>.ex 0) \/
  ∃Ks,GK ps d N 0 [mE ps d [0]]>Ks/\IsPart ps d Ks/\(xG (oX<|HR 2 (zA (gV 0)<|zA (gV 1) zE) WX)<|xG (oX<|yJ 3<|zA (λρ=>((zA (gV 0)<|zA (gV 1)<|zA (λρ=>((zA (zC 0) zE) ρ).map D.tup) zE) ρ).bind GP) zE)<|xG (oX<|tY 4 (b2 (gR 3) (zC 0) KA)<|zC 0)<|xG (oX<|yJ 5 zE)<|xG (h7 N yQ yD)<|oX<|qc<|b1 (gR 5) OH) [!EB m ps,!.int d,.un,.un,.un,.un,.un,.un,.un,.un,.un,.un,.un]>(.o<|.rt<|Fp ps d Ks):=by
 let(vs,O,mv):=zSE h.dn d;let(s0,a0):=CU h.dn d (S:=[0]) (λn hn=>by simp at hn;subst hn;have:=h.dn.n0;omega) (by simp);dsimp[kA,nC]at a0;have kz:=zOK<|mE ps d [0];have U:XS ps d vs [mE ps d [0]] []:=#[by simp,λK hK=>by simp at hK;subst hK;show eA,λK hK=>by simp at hK;subst hK;show s0,by simp,by simp,by simp]
 have pre:∀G:XA->Op TF,(xG (oX<|HR 2 (zA (gV 0)<|zA (gV 1) zE) WX)<|xG (oX<|yJ 3<|zA (λρ=>((zA (gV 0)<|zA (gV 1)<|zA (λρ=>((zA (zC 0) zE) ρ).map D.tup) zE) ρ).bind GP) zE)<|xG (oX<|tY 4 (b2 (gR 3) (zC 0) KA)<|zC 0)<|xG (oX<|yJ 5 zE) G) [!EB m ps,!.int d,.un,.un,.un,.un,.un,.un,.un,.un,.un,.un,.un] =
   G [!EB m ps,!.int d,.m<|tk vs,.l<|[mE ps d [0]].map zp,.o none<|.p<|.t<|z7 [mE ps d [0]],.l<|([]:L St).map QD,.un,.un,.un,.un,.un,.un,.un]:=λG=>by
  refine(BR (ρ':=[!EB m ps,!.int d,.m<|tk vs,.un,.un,.un,.un,.un,.un,.un,.un,.un,.un])<|IU ?_).trans ((BR (ρ':=[!EB m ps,!.int d,.m<|tk vs,.l [zp<|mE ps d [0]],.un,.un,.un,.un,.un,.un,.un,.un,.un])<|IU ?_).trans<|(BR (ρ':=[!EB m ps,!.int d,.m<|tk vs,.l [zp<|mE ps d [0]],.o none<|.p<|.t<|z7 [mE ps d [0]],.un,.un,.un,.un,.un,.un,.un,.un])<|IU ?_).trans<|BR<|IU rfl)
  .show Pt rfl mv
  .exists 0,a0,wB
   rfl
  .have i0:KA (.lst [zp<|mE ps d [0]]) (.int 0)>(zp<|mE ps d [0]):=by dsimp[KA,FJ]
   exists 0,tY,i0,kz,wB
   rfl
 have lp:=xr h vs O N [mE ps d [0]] [] .un .un .un .un .un .un .un U ‹Y›;rw[pre];unfold h7;rcases lp with⟨e0,e⟩|⟨r,DC,s6,s7,s8,s9,s10,s11,s12,e0,I,hl,e⟩
 .left
  show#[e0,R7 e]
 .right
  have J:([mE ps d [0]]++r).take DC.length=[mE ps d [0]]++r:=by rw[hl];show kF
  refine#[[mE ps d [0]]++r,e0,#[I.nd,rfl,I.st,λK hK=>(I.cl K (by rw[J];show hK)).1,λK hK=>(I.cl K (by rw[J];show hK)).2.1,λK hK ht x hx z=>((I.cl K (by rw[J];show hK)).2.2.resolve_left ht) x hx<|(O x ((I.st K hK).inn x hx).1 ((I.st K hK).inn x hx).2).mpr z,I.len h.few],?_];have es:=I.eq;rw[J]at es;rw[BR e];change some (TF.o<|Out.rt<|D.tup<|DC.map QD)>(TF.o<|Out.rt<|D.tup _);rw[<- es]
def zKd(h:PS m ps d):(GK ps d 20000000 0 [mE ps d [0]]=none/\yR [EB m ps,.int d]>.error 0)\/∃Ks,GK ps d 20000000 0 [mE ps d [0]]>Ks/\IsPart ps d Ks/\yR [EB m ps,.int d]>(.ok<|Fp ps d Ks):=by
 have q:=zX5 h 20000000 02;unfold yR;rw[zVI (ρ:=[.v _,.v _,.un,.un,.un,.un,.un,.un,.un,.un,.un,.un,.un]) rfl];unfold Oh;rcases q with⟨e0,e⟩|⟨Ks,e0,hk,e⟩
 .left;rw[e];show#[e0,rfl]
 .right;refine#[Ks,e0,hk,?_];rw[e];rfl
def zVJ(h:PS m ps d):yR [EB m ps,.int d]>.error 0\/∃Ks,IsPart ps d Ks/\yR [EB m ps,.int d]>(.ok<|Fp ps d Ks):=
 (zKd h).imp (·.2) λ⟨Ks,_,hk⟩=>#[Ks,hk]
noncomputable abbrev kc:L Str:=["thing"]
def kg:=((qc<|iM (b1 (gR 0)<|o8 "int")<|S5<|b1 (gR 0)<|o8 "bool"):AB)
def Bu(ds:L D):=(BI kc kg ds:Op D)
def X6(C:Addr):=(((zA (gV 1)<|zA (gV 2) zE)>>=yR):XA->Op (Except Nat D))
def CW(C:Addr):=((zC 0):TB)
noncomputable abbrev zSH:L Str:=["self","dance"]
def kY(C:Addr):=((xG (B7 C 0 "parts"<|jY 1 (WH<|zA (b2 (gR 1) (zC 0) KA) zE) (gN 2)<|X6 C)<|oX<|sq (λρ=>((zB 1 (iL<|λρ=>(CI C 0 "parts" ρ).bind wV) (gN 2) (λ_=>some true)<|CW C) ρ).bind λxs=>mO C 0 "at" (.f<|.l xs) ρ)<|sq (λρ=>mO C 0 "rows" (.f<|.tl []) ρ)<|λρ=>(zE ρ).bind λxs=>mO C 0 "past" (.f<|.l xs) ρ):XA->Op TF)
def KW(C:Addr)(x:Ob)(ds:L D):=(IM λa=>zXY zSH (kY C) a x ds:Op (Except Nat Ob))
noncomputable abbrev zX6:L Str:=["self","one","other"]
def Fq(C:Addr):=((qc<|b1 (AS C 0 "rows" ((zA (gV 1)<|zA (gV 2) zE)<&>D.tup)<|λρ=>(zE ρ).map D.tup) OH):AB)
def xY(C:Addr)(x:Ob)(ds:L D):=(IM λa=>dP zX6 (Fq C) a x ds:Op D)
noncomputable abbrev kh:L Str:=["self","dancer"]
def Nr(C:Addr):=((qc<|b2 (b2 (λρ=>(CI C 0 "parts" ρ).bind ZN) (gR 1) KA) (b2 (λρ=>(CI C 0 "at" ρ).bind ZN) (gR 1) KA) KA):AB)
def qg(C:Addr)(x:Ob)(ds:L D):=(IM λa=>dP kh (Nr C) a x ds:Op D)
def Ba(C:Addr):=(((zA (λ_=>some<|D.str "tell")<|zA (gV 1)<|zA (b2 (gR 2) (zC 1) KA)<|zA (gV 4) zE)<&>D.tup):TB)
def qy(C:Addr):=((bB<|b2 ((zA (gV 4) zE)<&>D.tup) (gR 3) wB):QE)
def Bb(C:Addr):=(((zA (λ_=>some<|D.str "hear")<|zA (b2 (gR 2) (zC 1) KA)<|zA (gV 1)<|zA (gV 4) zE)<&>D.tup):TB)
noncomputable abbrev kj:L Str:=["self","dancer","state","first"]
def Bv(C:Addr):=((sq (zw 2<|yr C "state_of" 0 (zA (gV 1) zE)<|qg C)<|sq (DE (bB<|b2 (b2 (gR 2) (zC 0) KA) (λ_=>some<|D.str "tells") wB) (GU<|zB 2 (iT<|b2 (gR 2) (zC 2) KA) (gT 2<|FE (gN 4)<|FE (gN 5) MF) (λ_=>some true)<|Ba C)<|λρ=>some<|Out.nx ρ)<|sq (DE (bB<|b2 (b2 (gR 2) (zC 0) KA) (λ_=>some<|D.str "hears") wB) (sq (zw 3<|GJ (yr C "row" 0 (zA (b2 (gR 2) (zC 1) KA)<|zA (gV 1) zE)<|xY C) (λ_=>some none) (oI<|zC 1) aK)<|GU<|zB 2 (iT<|b2 (gR 2) (zC 2) KA) (gT 2<|FE (gN 4)<|FE (gN 5) MF) (qy C)<|Bb C)<|λρ=>some<|Out.nx ρ)<|GU zE):AB)
def Nt(C:Addr)(x:Ob)(ds:L D):=(IM λa=>zXW kj (Bv C) a x ds:Op (L D))
def B6(C:Addr):=((cP 1<|Ea C "moves_of" 0 (zA (gV 2) zE)<|Nt C):AB)
noncomputable abbrev zOR:L Str:=["self","found","dancer"]
def Dv(C:Addr):=((sq (yJ 1 zE)<|sq (zN (WH<|zA (b1 (λρ=>(CI C 0 "parts" ρ).bind ZN) pH) zE) (gN 2)<|B6 C)<|qc<|b1 (gR 1) OH):AB)
def m7(C:Addr)(x:Ob)(ds:L D):=(IM λa=>dP zOR (Dv C) a x ds:Op D)
noncomputable abbrev Yz:L Str:=["self","move"]
def Al(C:Addr):=((qc<|iM (b2 (gV 1) (yr C "moves" 0 zE<|m7 C) JI)<|iM ((zA (b2 (gR 1) (zC 1) KA) zE)>>=Bu)<|(zA (b2 (gR 1) (zC 2) KA) zE)>>=Bu):AB)
def yE(C:Addr)(x:Ob)(ds:L D):=(IM λa=>dP Yz (Al C) a x ds:Op D)
noncomputable abbrev zOS:L Str:=["self","dancer","word"]
def o7(C:Addr):=((Ts C 0 "at" (gV 1)<|MT (b2 (yr C "state_of" 0 (zA (gV 1) zE)<|qg C) (zC 2) KA)<|gV 2):AB)
def HS(C:Addr)(x:Ob)(ds:L D):=(IM λa=>eW zOS (o7 C) a x ds:Op Ob)
noncomputable abbrev E2:L Str:=["self","move","pair"]
def r8(C:Addr):=((sq (DE (ZO<|lL<|yr C "can_be_done" 0 (zA (gV 1) zE)<|yE C) (λ_=>none)<|λρ=>some<|Out.nx ρ)<|sq (zw 2<|(zA (b2 (gR 1) (zC 1) KA)<|zA (b2 (gR 1) (zC 2) KA) zE)<&>D.tup)<|sq (DE (bB<|b2 (b2 (gR 1) (zC 0) KA) (λ_=>some<|D.str "tell") wB) (sq (rY C 0 "rows" (gV 2)<|b2 (gR 1) (zC 3) KA)<|WO C "go_on" 0 (zA (b2 (gR 1) (zC 1) KA)<|zA (b2 (gR 1) (zC 3) KA) zE)<|HS C)<|sq (pY C 0 "rows"<|gV 2)<|WO C "go_on" 0 (zA (b2 (gR 1) (zC 2) KA)<|zA (b2 (gR 1) (zC 3) KA) zE)<|HS C)<|X7 C 0 "past"<|gV 1):AB)
def cW(C:Addr)(x:Ob)(ds:L D):=(IM λa=>eW E2 (r8 C) a x ds:Op Ob)
noncomputable abbrev zSI:L Str:=["self"]
def Su(C:Addr):=((qc<|b1 (λρ=>(CI C 0 "past" ρ).bind ZN) OH):AB)
def Eo(C:Addr)(x:Ob)(ds:L D):=(IM λa=>dP zSI (Su C) a x ds:Op D)
noncomputable abbrev km:L Str:=["_law_dance_here","_law_hall_here"]
def Bw(C:Addr):=((sq (zw 1<|λ_=>some D.non)<|sq (fY C 1 (zA (gV 0) zE) (KW C) 0<|zw 1<|λ_=>some D.non)<|Sg 1):AB)
def D6(C:Addr)(ds:L D):=(v8 km (Bw C) ds:Op Sl)
noncomputable def kv(q:Str×Int):kC×D:=(.inr q.1,.int q.2)
theorem zKf:∀(ch:L (Str×Int)),dY (ch.map ZD)>ch.map kv
 | []=>rfl
 |q::ch=>by simp[dY,ZD,FK,zKf ch,kv]
def zRC(h:∀q∈kvs,q.1≠k):RP kvs k v=kvs++[(k,v)]:=by
 unfold RP;rw[if_neg];dsimp[jF,decide_eq_true_eq,not_exists,not_and];show h
theorem zKg:∀(ch:L (Str×Int))(acc:L (kC×D)),(ch.map (·.1)).Pairwise (·≠·)->(∀q∈ch,∀a∈acc,a.1≠(kv q).1)->(ch.map kv).foldl (λacc p=>RP acc p.1 p.2) acc=acc++ch.map kv
 | [],acc,_,_=>by simp
 |q::ch,acc,h,k=>by
  let(h1,h2):=YA.mp h;simp;rw[zRC<|k q eA,zKg ch _ h2]
  .simp
  .intro q' z a ha;rcases pA.mp ha with ha|ha
   .show k q' (cA _ z) a ha
   .simp at ha;subst ha;intro e;have:=by simpa[kv] using e
    show h1 _ (YB z) this
def zOU{ch:L (Str×Int)}(h:SM (ch.map (·.1)))(hl:ch.length<=1000):nY (.tup<|ch.map ZD)>ch.map kv:=by
 unfold nY;dsimp[lA];rw[if_pos<|01,zKf];simp;rw[zKg ch [] (R8 (λh=>h.ne) h)<|by simp];simp
theorem Sv(w:Str):∀(ch:L (Str×Int)),VO (ch.map kv) (.inr w)=((ch.find? λq=>decide<|q.1=w).map (·.2)).map D.int
 | []=>rfl
 |q::ch=>by
  have ih:=Sv w ch;unfold VO at ih|-;dsimp[kA,BB];by_cases e:q.1=w
  .simp[kv,e]
  .have e':¬ (vE _:kC)=vE w:=λz=>e ‹z›
   dsimp[kv,e,e',decide_false];show ih
set_option genInjectivity true in
structure Mv where
 t:Bool
 a:Int
 b:Int
 w:Str
deriving DecidableEq
noncomputable def YO(t:Bool):Str:=if t then "tell" else "hear"
def CC(v:Mv):=(.tup [.str<|YO v.t,.int v.a,.int v.b,.str v.w]:D)
structure Hl where
 P:List (List St)
 at':List Int
 R:List ((Int×Int)×List Str)
 past:List Mv
noncomputable def xI(k:Int×Int):L kC:=[.inl k.1,.inl k.2]
def iF(R:L ((Int×Int)×L Str)):=(R.map λq=>(xI q.1,q.2.map D.str):L (L kC×L D))
def JE(p:L St):=(.tup<|p.map QD:D)
def QC(C:Addr)(h:Hl):=(.ins C [("parts",!.lst (h.P.map JE)),("at",.f<|.l<|h.at'.map D.int),("rows",.f<|.tl<|iF h.R),("past",.f<|.l<|h.past.map CC)]:Ob)
def jb:(iA "at" == iA "parts")=false:=rfl
def Za:(iA "rows" == iA "parts")=false:=rfl
def Zb:(iA "past" == iA "parts")=false:=rfl
def kn:(iA "rows" == iA "at")=false:=rfl
def kq:(iA "past" == iA "at")=false:=rfl
def Zl:(iA "past" == iA "rows")=false:=rfl
def Oj(C:Addr)(h:Hl):lO C "parts" (QC C h)>(!.lst (h.P.map JE)):=by
 dsimp[lO,QC,if_true,kB,beq_self_eq_true]
def Sw(C:Addr)(h:Hl):lO C "at" (QC C h)>(.f<|.l<|h.at'.map D.int):=by
 dsimp[lO,QC,if_true,kB,beq_self_eq_true,jb]
def Pu(C:Addr)(h:Hl):lO C "rows" (QC C h)>(.f<|.tl<|iF h.R):=by
 dsimp[lO,QC,if_true,kB,beq_self_eq_true,Za,kn]
def zKh(C:Addr)(h:Hl):lO C "past" (QC C h)>(.f<|.l<|h.past.map CC):=by
 dsimp[lO,QC,if_true,kB,beq_self_eq_true,Zb,kq,Zl]
def DR(C:Addr)(h:Hl)(m:Str)(h1:(m==iA "parts")=false)(h2:(m==iA "at")=false)(h3:(m==iA "rows")=false)(z:(m==iA "past")=false):fK C m (QC C h)=true:=by
 dsimp[fK,QC,decide_true,kB,h1,h2,h3,z,dH,Option.isNone_none,jX]
def Nc(C:Addr)(h:Hl):fK C "state_of" (QC C h)=true:=DR C h _ (rfl) (rfl) (rfl)<|rfl
def zSJ(C:Addr)(h:Hl):fK C "row" (QC C h)=true:=DR C h _ (rfl) (rfl) (rfl)<|rfl
def zJS(C:Addr)(h:Hl):fK C "moves_of" (QC C h)=true:=DR C h _ (rfl) (rfl) (rfl)<|rfl
def zKi(C:Addr)(h:Hl):fK C "moves" (QC C h)=true:=DR C h _ (rfl) (rfl) (rfl)<|rfl
def zSK(C:Addr)(h:Hl):fK C "can_be_done" (QC C h)=true:=DR C h _ (rfl) (rfl) (rfl)<|rfl
def zX8(C:Addr)(h:Hl):fK C "do" (QC C h)=true:=DR C h _ (rfl) (rfl) (rfl)<|rfl
def zKj(C:Addr)(h:Hl):fK C "go_on" (QC C h)=true:=DR C h _ (rfl) (rfl) (rfl)<|rfl
def zVK(C:Addr)(h:Hl):fK C "done" (QC C h)=true:=DR C h _ (by decide +kernel) (by decide +kernel) (by decide +kernel) (by decide +kernel)
structure gZ(n:Nat)(o:Int)(prs:List (Str×Int)):Prop where
 few:prs.length<=20
 rs:SM (prs.map (·.1))
 wd:∀q∈prs,HH q.1
 nx:∀q∈prs,0<=q.2/\q.2<(n:Int)
def WR(n:Nat):St->Prop
 |.act _ o prs=>gZ n o prs
 |_=>True
structure HOk(k:Nat)(h:Hl):Prop where
 len:h.at'.length=h.P.length
 m4:h.P.length<=4
 inn:∀(i:Nat)(p:List St)(n:Int),h.P[i]?>p->h.at'[i]?>n->0<=n/\n<(p.length:Int)
 st:∀p∈h.P,∀s∈p,WR p.length s
 rn:h.R.length<=k
 rl:∀q∈h.R,q.2.length<=k
 pl:h.past.length<=k
noncomputable def HK(h:Hl)(i:Nat):Op St:=(h.P[i]?).bind λp=>(h.at'[i]?).bind λn=>p[n.toNat]?
def FQ{h:Hl}(H:HOk k h)(hi:i<h.P.length):∃p n s,h.P[i]?>p/\h.at'[i]?>n/\p[n.toNat]?>s/\HK h i>s/\(0<=n/\n<(p.length:Int))/\WR p.length s:=by
 have e1:h.P[i]?>h.P[i]:=by simp[hi]
 have J:i<h.at'.length:=by rw[H.len];show hi
 have z:h.at'[i]?>h.at'[i]:=by simp_all
 generalize h.P[i]=p at e1;generalize h.at'[i]=n at z;have b:=H.inn i p n e1 z;have hn:n.toNat<p.length:=01
 have e3:p[n.toNat]?>p[n.toNat]:=by simp[hn]
 refine#[p,n,p[n.toNat],e1,z,e3,by simp[HK,e1,z],b,H.st p (xA e1) _<|MC _]
def Re(H:HOk k h)(C:Addr)(hs:HK h i>s):qg C (QC C h) [.int i]>QD s:=by
 refine yc λa=>?_
 let(p,e1,hs):=aA.mp hs;let(n,z,e3):=aA.mp hs;have b:=H.inn i p n e1 z;have U:KA (.lst<|h.P.map JE) (.int i)>JE p:=AR (by simp[e1]);have i2:KA (.lst<|h.at'.map D.int) (.int i)>.int n:=AR (by simp[z])
 have i3:KA (JE p) (.int n)>QD s:=by
  have:=AR (xs:=p.map QD) (i:=n.toNat) (x:=QD s) (by simp[e3]);rw[show(n.toNat:Nat)=n by omega]at this;show this
 have J:=Oj C h;have O:=Sw C h
 exists 0,dP,Nr,CI,eM,ZN,J,O,U,i2,i3,wB
noncomputable def zu(h:Hl)(a b:Int):L Str:=((h.R.find? λq=>decide<|q.1=(a,b)).map (·.2)).getD []
def zSL:xI k=xI k'↔k=k':=by
 let(a,b):=k;let(z,b'):=k';simp[xI]
theorem LW(k:Int×Int):∀R:L ((Int×Int)×L Str),PF (iF R) (xI k)=((R.find? λq=>decide<|q.1=k).map (·.2)).map (xO D.str)
 | []=>rfl
 |q::R=>by
  have ih:=LW k R;unfold PF iF at ih|-;rw[kA,BB,BB];by_cases e:q.1=k
  .simp[e]
  .have e1:¬ xI _=xI k:=λz=>e (zSL.mp z)
   dsimp[e1,e];show ih
def zOX(C:Addr)(h:Hl)(a b:Int):xY C (QC C h) [.int a,.int b]>(.tup<|(zu h a b).map D.str):=by
 refine yc λad=>?_
 have z:=Pu C h;have g:=LW (a,b) h.R;have J:HM (.tup [.int a,.int b])>xI (a,b):=rfl;unfold zu
 cases e:h.R.find? _ with
 |none=>
  rw[e]at g
  exists 0,dP,Fq,AS,CI,eM,z,J,g,RI,wB
 |some q=>
  rw[e]at g
  exists 0,dP,Fq,AS,CI,eM,z,J,g,UI,wB
def yq{fl:FD}{F:Ob->L D->Op D}(h1:eM ρ i>x)(h2:fK C m x=true)(h3:fl ρ>ds)(z:F x ds>r):yr C m i fl F ρ>r:=by
 unfold yr;simp_all
def zOY{fl:FD}{F:Ob->L D->Op (L D)}(h1:eM ρ i>x)(h2:fK C m x=true)(h3:fl ρ>ds)(z:F x ds>r):Ea C m i fl F ρ>r:=by
 unfold Ea;simp_all
noncomputable def uJ(h:Hl)(i:Nat):L Mv:=match HK h i with
 |some (.act true o prs)=>prs.map λq=>#[true,i,o,q.1]
 |some (.act false o prs)=>(prs.filter λq=>decide<|[q.1]=(zu h o i).take 1).map λq=>#[false,o,i,q.1]
 |_=>[]
def zX9(t:Bool)(o:Int)(prs:L (Str×Int)):KA (QD<|.act t o prs) (.int 0)>(.str<|if t then "tells" else "hears"):=rfl
def j8(t:Bool)(o:Int)(prs:L (Str×Int)):KA (QD<|.act t o prs) (.int 1)>.int o:=rfl
def k8(t:Bool)(o:Int)(prs:L (Str×Int)):KA (QD<|.act t o prs) (.int 2)>(.tup<|prs.map ZD):=rfl
def eq_str(a b:Str):wB (.str a) (.str b)>(.bl<|a==b):=rfl
def V3:((iA "rests" : Str)==iA "tells")=false:=rfl
def U3:((iA "rests" : Str)==iA "hears")=false:=rfl
def kr(l:L Str):zQ (l.map D.str) none (some 1)=(l.take 1).map D.str:=by
 cases l with
 |nil=>rfl
 |cons a l=>
  rfl
def zYA(w:Str)(l:L Str):wB (.tup [.str w]) (.tup<|(l.take 1).map D.str)>(.bl<|decide<|[w]=l.take 1):=by
 have:=Ov [w]<|l.take 1;unfold wB;rw[if_pos<|by simp[LF,GH]];unfold GD;rw[show[D.str w]=[w].map _ from rfl,this]
def zOb(C:Addr)(i:Nat)(o:Int)(prs:L (Str×Int))(x s3:Sl)(a:Addr):zF (gT 2<|FE (gN 4)<|FE (gN 5) MF) (λ_=>some true) (Ba C) (prs.map ZD) [x,!.int i,!QD (.act true o prs),s3,.un,.un]>(prs.map λq=>(#[true,i,o,q.1]:Mv)).map CC:=by
 have z:=j8 true o prs
 have:=zS (g:=gT 2<|FE (gN 4)<|FE (gN 5) MF) (p:=λ_=>some true) (f:=Ba C) (emb:=ZD) (ρ:=[x,.v _,.v _,s3,.un,.un]) _ (λq=>CC #[true,i,o,q.1]) prs λq _=>by
  refine#[[x,!.int i,!QD (.act true o prs),s3,.v _,.v _],rfl,rfl,λ_=>?_];rfl
 rw[this,sC.mpr (by simp),UA];rfl
def zOc(C:Addr)(i:Nat)(o:Int)(prs:L (Str×Int))(l:L Str)(x:Sl):zF (gT 2<|FE (gN 4)<|FE (gN 5) MF) (qy C) (Bb C) (prs.map ZD) [x,!.int i,!QD (.act false o prs),!.tup ((l.take 1).map D.str),.un,.un]>((prs.filter λq=>decide<|[q.1]=l.take 1).map λq=>(#[false,o,i,q.1]:Mv)).map CC:=by
 have z:=j8 false o prs
 have:=zS (g:=gT 2<|FE (gN 4)<|FE (gN 5) MF) (p:=qy C) (f:=Bb C) (emb:=ZD) (ρ:=[x,.v _,.v _,.v _,.un,.un]) (λq=>decide<|[q.1]=l.take 1) (λq=>CC #[false,o,i,q.1]) prs λq _=>by
  refine#[[x,!.int i,!QD (.act false o prs),!.tup ((l.take 1).map D.str),.v _,.v _],rfl,?_,λ_=>?_]
  .have e:=zYA q.1 l
   exists qy,e,zF,gN,gT,FE,MF,zQ,zJ,NF
  rfl
 rw[this,UA];rfl
def zRD{h:Hl}(H:HOk k h)(C:Addr)(hi:i<h.P.length):Nt C (QC C h) [.int i]>(uJ h i).map CC:=by
 refine yc λa=>?_
 let(p,n,s,e1,e2,e3,es,b,ok):=FQ H hi;have ms:=Re H C es
 have iO:zw 2 (yr C "state_of" 0 (zA (gV 1) zE)<|qg C) [.b a<|QC C h,!.int i,.un,.un]>_:=
  (zx<|yq rfl (Nc C h) rfl ms).trans rfl
 change(Bv C [.b a<|QC C h,!.int i,.un,.un]).bind uY=_;unfold Bv uJ;rw[zI iO,es];generalize hO:QC C h=O at *
 cases s with
 |fin=>
  have z:KA (QD .fin) (.int 0)>.str "end":=by dsimp[QD,KA,FJ]
  exists uY,GU,z,eq_str,iW,gW,zF,gN,gT,FE,MF,zQ,zJ,NF
 |rests=>
  have z:KA (QD .rests) (.int 0)>.str "rests":=by dsimp[QD,KA,FJ]
  exists uY,GU,z,eq_str,V3,U3,zF,gN,gT,FE,MF,zQ,zJ,NF
 |act t o prs=>
  have z:=zX9 t o prs;have i1:=j8 t o prs;have i2:=k8 t o prs;have J:prs.length<=1000000:=by have:=(ok:gZ _ _ _).few;omega
  cases t with
  |true=>
   have cp:=zOb C i o prs (.b a O) .un a
   exists uY,GU,z,i2,eq_str,beq_self_eq_true,cp,J,zQ,zJ,NF
  |false=>
   have cp:=zOc C i o prs (zu h o i)<|.b a O;have A1:KA (QD<|.act false o prs) (.int 0)>.str "hears":=z
   have Y:yr C "row" 0 (zA (b2 (gR 2) (zC 1) KA)<|zA (gV 1) zE) (xY C) [.b a O,!.int i,!QD (.act false o prs),.un]>(.tup<|(zu h o i).map D.str):=by
    subst hO;refine yq (ds:=[.int o,.int i]) rfl (zSJ C h) ?_<|zOX C h o i
    exists 0,i1,wB
   have Ae:=kr<|zu h o i;generalize yr C "row" 0 _ (xY C)=f1 at Y|-
   exists uY,GU,A1,i2,eq_str,jW,beq_self_eq_true,Y,Ae,cp,J,zJ,NF
def uH(h:Hl):=((DA h.P.length).flatMap<|uJ h:L Mv)
def Ol(H:HOk k h)(i:Nat):(uJ h i).length<=20:=by
 by_cases hi:i<h.P.length
 .let(p,n,s,e1,z,e3,es,b,ok):=FQ H hi;unfold uJ;rw[es]
  cases s with
  |fin=>simp
  |rests=>simp
  |act t o prs=>
   have:=ok.few
   cases t with
   |true=>simp_all
   |false=>simp;show JA (AD ..) this
 .have:h.P[i]?=none:=by grind
  simp[uJ,HK,this]
theorem kx{h:Hl}(H:HOk k h)(C:Addr)(a:Addr):∀(is:L Nat)(acc:L Mv)(s2:Sl),(∀i∈is,i<h.P.length)->acc.length+20*is.length<=1000->∃z,zJ (gN 2) (B6 C) (is.map λ(i:Nat)=>D.int<|0+(i:Int)) [.b a<|QC C h,.l<|acc.map CC,s2]>.nx [.b a<|QC C h,.l<|(acc++is.flatMap (uJ h)).map CC,z]
 | [],acc,s2,_,_=>#[s2,by simp[zJ]]
 |i::is,acc,s2,hi,hl=>by
  have J:=hi i eA;have l1:=Ol H i;rw[sA]at hl;let(z,ih):=kx H C a is (acc++uJ h i) _ (λj hj=>hi j<|cA _ hj) (by grind);refine#[z,?_];have mm:=zRD H C J
  have st:B6 C [.b a<|QC C h,.l<|acc.map CC,!.int (0+i)]>.nx [.b a<|QC C h,.l<|(acc++uJ h i).map CC,!.int (0+i)]:=by
   have e:=zOY (i:=0) (fl:=zA (gV 2) zE) (ρ:=[.b a _,.l<|acc.map CC,!.int (0+i)]) rfl (zJS C h) rfl (by rw[lD];show mm);unfold B6 cP;have q:acc.length+(uJ h i).length<=1000000:=01
   dsimp[gL,NB,ZA,dA,e,lA,if_pos q,pI,WD,uA]
  rw[kA,yK rfl st,ih,OB,dB]
def zYB(H:HOk k h)(C:Addr):m7 C (QC C h) []>(.tup<|(uH h).map CC):=by
 refine yc λa=>?_
 have m4:=H.m4;let(J,e):=kx H C a _ [] _ (λi hi=>VB.mp hi) (by grind);rw[nC]at e;have z:=Oj C h;change(Dv C [.b a _,.un,.un]).bind _=_;unfold Dv;rw[zI (ρ':=[.b a _,.l [],.un]) rfl,zI<|(sFor_eq<|KP ?_<|01).trans e]
 .rfl
 .exists 0,CI,eM,ZN,z,wB
def zRE(C:Addr)(h:Hl):Eo C (QC C h) []>(.tup<|h.past.map CC):=by
 refine yc λa=>?_
 have z:=zKh C h
 exists 0,dP,Su,CI,eM,ZN,z,wB
def xt:∀a b:Bool,(YO a==YO b)=decide (a=b):=by
 have a:(iA "tell" == iA "hear")=false:=rfl;have b:(iA "hear" == iA "tell")=false:=by assumption
 intro x y;cases x<;>cases y<;>simp[YO,a,b]
def AZ(u v:Mv):GD (CC u) (CC v)=decide (u=v):=by
 let(t,a,b,w):=u;let(t',z,b',J):=v;dsimp[CC,GD,dG,xt,Dj,jM,Mv.mk.injEq]
 grind
def zYC(v:Mv):LF (CC v)<=20:=JC rfl
def zYD(v:Mv)(l:L Mv):JI (CC v) (.tup<|l.map CC)>(.bl<|decide<|v∈l):=by
 unfold JI;rw[if_pos<|zYC v];dsimp[OI,Function.comp_def,AZ]
 congr 2
 by_cases h:v∈l
 .simp_all
 .rw[decide_eq_false h,kG];intro u J z;simp_all
def xv(n:Int):Bu [.int n]>.bl true:=by
 rfl
def zYE(v:Mv):KA (CC v) (.int 0)>(.str<|YO v.t):=rfl
def Uh(v:Mv):KA (CC v) (.int 1)>.int v.a:=rfl
def Ui(v:Mv):KA (CC v) (.int 2)>.int v.b:=rfl
def Uj(v:Mv):KA (CC v) (.int 3)>.str v.w:=rfl
def zYF(H:HOk k h)(C:Addr)(v:Mv):yE C (QC C h) [CC v]>(.bl<|decide<|v∈uH h):=by
 refine yc λa=>?_
 have mm:yr C _ 0 zE _ [.b a _,!CC v]>_:=yq rfl (zKi C h) rfl<|zYB H C;have z:=zYD v<|uH h;have J:=Uh v;have i2:=Ui v;have w1:=xv v.a;have O:=xv v.b;change(Al C [.b a _,.v _]).bind _=_;unfold Al
 cases e:decide (v∈uH h) with
 |true=>
  rw[e]at z
  exists 0,mm,z,J,i2,w1,O,wB
 |false=>
  rw[e]at z
  exists 0,mm,z,J,i2,w1,O,wB
noncomputable abbrev xP(a b c d:Fl):L (Str×Fl):=[(iA "parts",a),(iA "at",b),(iA "rows",c),(iA "past",d)]
noncomputable def ER(h:Hl)(i:Nat)(w:Str):Op Int:=match HK h i with
 |some (.act _ _ prs)=>(prs.find? λq=>decide<|q.1=w).map (·.2)
 |_=>none
def zOd(h:i<n):WG n (i:Int)>i:=by unfold WG;simp_all
def zYG(C:Addr)(h:Hl)(xs:L Int):tJ "at" (.f<|.l<|xs.map D.int) (xP (!.lst (h.P.map JE)) (.f<|.l<|h.at'.map D.int) (.f<|.tl<|iF h.R)<|.f<|.l<|h.past.map CC)=(xP (!.lst (h.P.map JE)) (.f<|.l<|xs.map D.int) (.f<|.tl<|iF h.R)<|.f<|.l<|h.past.map CC):=rfl
def zRF(C:Addr)(h:Hl)(y:Fd):tJ "rows" (.f y) (xP (!.lst (h.P.map JE)) (.f<|.l<|h.at'.map D.int) (.f<|.tl<|iF h.R)<|.f<|.l<|h.past.map CC)=(xP (!.lst (h.P.map JE)) (.f<|.l<|h.at'.map D.int) (.f y)<|.f<|.l<|h.past.map CC):=rfl
def zRG(C:Addr)(h:Hl)(y:Fd):tJ "past" (.f y) (xP (!.lst (h.P.map JE)) (.f<|.l<|h.at'.map D.int) (.f<|.tl<|iF h.R)<|.f<|.l<|h.past.map CC)=(xP (!.lst (h.P.map JE)) (.f<|.l<|h.at'.map D.int) (.f<|.tl<|iF h.R)<|.f y):=rfl
def Sx{h:Hl}{ρ:XA}(e:ρ[i]?>(.o c<|QC C h))(hf:lO C f (QC C h)>.f y):FU C i f ρ>(c,(xP (!.lst (h.P.map JE)) (.f<|.l<|h.at'.map D.int) (.f<|.tl<|iF h.R)<|.f<|.l<|h.past.map CC),y):=by
 unfold FU;rw[e];dsimp[lO,QC,if_true]at hf ⊢;rw[hf]
def zYH(H:HOk k h)(C:Addr)(hn:ER h i w>n):HS C (QC C h) [.int i,.str w]>QC C { h with at':=h.at'.set i n }:=by
 refine yc λa=>?_
 have hi:i<h.P.length:=by
  unfold ER HK at hn;by_cases q:i<h.P.length
  .show q
  .have:h.P[i]?=none:=by simp;omega
   rw[this]at hn;simp at hn
 let(p,Y,s,e1,U,e3,es,b,ok):=FQ H hi;unfold ER at hn;rw[es]at hn
 cases s with
 |fin=>simp at hn
 |rests=>simp at hn
 |act t o prs=>
  simp only at hn;have ms:=Re H C es;have sm:yr C "state_of" 0 (zA (gV 1) zE) _ [.o (some a)<|QC C h,!.int i,!.str w]>_:=yq rfl (Nc C h) rfl ms;have J:=zOU ok.rs (by have:=ok.few;omega);have z:=Sv w prs;rw[hn]at z;have of:=Sx (C:=C) (h:=h) (f:="at") (ρ:=[.o (some a)<|QC C h,!.int i,!.str w]) (i:=0) (c:=some a) rfl<|Sw C h;have O:=zOd (n:=(h.at'.map D.int).length) (i:=i) (by rw[lA,H.len];show hi);have i2:=k8 t o prs
  have d1:MT (b2 (yr C "state_of" 0 (zA (gV 1) zE)<|qg C) (zC 2) KA) (gV 2) [.o (some a)<|QC C h,!.int i,!.str w]>.int n:=by
   unfold MT b2;rw[sm,dA,dA,i2,dA,J];show z
  have st:o7 C [.o (some a)<|QC C h,!.int i,!.str w]>.nx [.o (some a)<|QC C { h with at':=h.at'.set i n },!.int i,!.str w]:=by
   unfold o7 Ts;rw[d1,dA,of,dA];dsimp[NQ,NB,ZA,dA,O,VA,KQ,WD];have sa:=zYG C h<|h.at'.set i n;rw[XM]at sa;rw[sa];dsimp[QC,XM]
  change(o7 C [.o (some a)<|QC C h,!.int i,!.str w]).bind _=_;rw[st];dsimp[dA,xU,ZA,if_true]
noncomputable def SJ(k:Int×Int)(f:L Str->L Str):L ((Int×Int)×L Str)->L ((Int×Int)×L Str)
 | []=>[]
 |q::r=>if q.1=k then (q.1,f q.2)::r else q::SJ k f r
noncomputable def QQ(k:Int×Int)(w:Str)(R:L ((Int×Int)×L Str)):L ((Int×Int)×L Str):=match R.find? λq=>decide (q.1=k) with
 |some _=>SJ k (· ++ [w]) R
 |none=>R++[(k,[w])]
theorem S7{f:L Str->L Str}:∀{R:L ((Int×Int)×L Str)},((R.find? λq=>decide<|q.1=k).map (·.2))>xs->nI (xI k) ((f xs).map D.str) (iF R)=iF (SJ k f R)
 | [],h=>by simp at h
 |q::R,h=>by
  rw[BB]at h;by_cases e:q.1=k
  .dsimp[e,decide_true,VA,DF]at h;dsimp[iF,kA,nI,SJ,e,if_true,h]
  .dsimp[e,decide_false]at h;have e1:¬ xI _=xI k:=λz=>e (zSL.mp z)
   have ih:=S7 (f:=f) h;dsimp[iF]at ih;dsimp[iF,kA,nI,SJ,e,e1,if_false,ih]
theorem Pv(k:Int×Int)(f:L Str->L Str):∀R:L ((Int×Int)×L Str),(SJ k f R).length=R.length
 | []=>rfl
 |q::R=>by unfold SJ;split<;>simp[Pv k f R]
theorem Pw{f:L Str->L Str}:∀{R:L ((Int×Int)×L Str)}{q:(Int×Int)×L Str},q∈SJ k f R->q∈R\/∃q'∈R,q=(q'.1,f q'.2)
 | [],q,h=>by simp[SJ]at h
 |r::R,q,h=>by
  unfold SJ at h;split at h
  .rcases oA.mp h with rfl|h
   .show .inr #[r,eA,rfl]
   .show .inl<|cA _ h
  .rcases oA.mp h with rfl|h
   .show .inl eA
   .rcases Pw h with h|⟨q',h',e⟩
    .show .inl<|cA _ h
    .show .inr #[q',cA _ h',e]
theorem Om{f:L Str->L Str}:∀R:L ((Int×Int)×L Str),((SJ k f R).find? λq=>decide<|q.1=k').map (·.2)=((R.find? λq=>decide<|q.1=k').map (·.2)).map λxs=>if k'=k then f xs else xs
 | []=>rfl
 |r::R=>by
  have ih:=Om (k:=k) (k':=k') (f:=f) R;unfold SJ;by_cases e:r.1=k
  .rw[if_pos e,BB,BB];by_cases e':r.1=k'
   .simp_all
   .have:¬ k'=k:=λz=>e' (e.trans z.symm)
    simp[e',this];rfl
  .rw[if_neg e,BB,BB];by_cases e':r.1=k'
   .simp_all
   .dsimp[e',decide_false];show ih
def zYI{w:Str}:(match PF (iF R) (xI k) with
  |some xs=>nI (xI k) (xs++[.str w])<|iF R
  |none=>iF R++[(xI k,[.str w])])=iF (QQ k w R):=by
 rw[LW];unfold QQ
 cases e:R.find? _ with
 |none=>simp[iF]
 |some q=>
  have:=S7 (f:=(· ++ [w])) (by rw[e];rfl);simpa using this
def zOg(h:Hl)(k:Int×Int)(w:Str)(a b:Int):zu { h with R:=QQ k w h.R } a b=if (a,b)=k then zu h a b++[w] else zu h a b:=by
 unfold zu QQ
 cases e:h.R.find? _ with
 |none=>
  simp;by_cases c:(a,b)=k
  .rw[c,e];simp
  .have:¬ k=(a,b):=λz=>c z.symm
   simp[c,this]
 |some q=>
  rw[Om];by_cases c:(a,b)=k
  .simp_all
  .simp[c];rfl
def zOh(h:Hl)(k:Int×Int)(a b:Int):zu { h with R:=SJ k LH h.R } a b=if (a,b)=k then (zu h a b).tail else zu h a b:=by
 unfold zu;rw[Om];by_cases c:(a,b)=k
 .dsimp[c]
  cases h.R.find? _ with
  |none=>rfl
  |some q=>rfl
 .dsimp[c]
  cases h.R.find? _ with
  |none=>rfl
  |some q=>rfl
def app_len(k:Int×Int)(w:Str)(R:L ((Int×Int)×L Str)):(QQ k w R).length<=R.length+1:=by
 unfold QQ;split
 .rw[Pv];omega
 .simp
def zVO{q:(Int×Int)×L Str}(h:q∈QQ k w R):q∈R\/(∃q'∈R,q.2.length=q'.2.length+1)\/q.2.length=1:=by
 unfold QQ at h;split at h
 .rcases Pw h with h|⟨q',h',e⟩
  .show .inl h
  .show .inr (.inl #[q',h',by simp_all])
 .rcases pA.mp h with h|h
  .show .inl h
  .simp at h;subst h;show .inr<|.inr rfl
noncomputable def Mv.who(v:Mv):Nat:=(if v.t then v.a else v.b).toNat
def yb(v:Mv)(R:L ((Int×Int)×L Str)):=(if v.t then QQ (v.a,v.b) v.w R else SJ (v.a,v.b) LH R:L ((Int×Int)×L Str))
def AL(h:Hl)(v:Mv)(n:Int):=(#[h.P,h.at'.set v.who n,yb v h.R,h.past++[v]]:Hl)
def Rf{h:Hl}(H:HOk k h){v:Mv}(hv:v∈uH h):∃o prs n,v.who<h.P.length/\HK h v.who>.act v.t o prs/\(v.w,n)∈prs/\ER h v.who v.w>n /\
  (if v.t=true then v.a=(v.who:Int)/\v.b=o else v.b=(v.who:Int)/\v.a=o/\[v.w]=(zu h v.a v.b).take 1):=by
 let(i,hi,hm):=sD.mp hv;have hi:=VB.mp hi;let(p,J,s,e1,z,e3,es,b,ok):=FQ H hi
 have nx:∀(t:Bool)(o:Int)(prs:L _)(q:Str×Int),s=.act t o prs->q∈prs->ER h i q.1>q.2:=λt o prs q hs hq=>by
  subst hs;unfold ER;rw[es];have nd:=ok.rs.imp λh=>h.ne
  have:∀(l:L _),(l.map (·.1)).Pairwise (·≠·)->q∈l->(l.find? λx=>decide<|x.1=q.1).map (·.2)>q.2:=by
   intro l
   induction l with
   |nil=>intro _ h;simp at h
   |cons x l ih=>
    intro hp hq;let(h1,h2):=YA.mp hp;rw[BB];rcases oA.mp hq with rfl|hq
    .simp
    .have:=h1 _<|YB hq;dsimp[this,decide_false];show ih h2 hq
  show this _ nd hq
 unfold uJ at hm;rw[es]at hm
 cases s with
 |fin=>simp at hm
 |rests=>simp at hm
 |act t o prs=>
  cases t with
  |true=>
   simp only at hm;let(q,hq,rfl):=QA.mp hm;refine#[o,prs,q.2,?_];dsimp[Mv.who,if_true,bD]
   show#[hi,es,hq,nx _ o _ q rfl hq,by simp]
  |false=>
   simp only at hm;let(q,hq,rfl):=QA.mp hm;let(hq,hr):=cD.mp hq;refine#[o,prs,q.2,?_];dsimp[Mv.who,JB,if_false];show#[hi,es,hq,nx _ o _ q rfl hq,‹hr›]
def Px{fl:FD}{F:Ob->L D->Op Ob}{ρ:XA}(h1:ρ[i]?>.o c x)(h2:fK C m x=true)(h3:fl ρ>ds)(z:F x ds>x'):WO C m i fl F ρ>(.nx<|ρ.set i<|.o c x'):=by
 unfold WO;simp_all
def HOk.rows(H:HOk k h){R:L ((Int×Int)×L Str)}(hk:k<=k')(h1:R.length<=k')(h2:∀q∈R,q.2.length<=k'):HOk k' { h with R:=R }:=
 #[H.len,H.m4,H.inn,H.st,h1,h2,JA H.pl hk]
def xw{h:Hl}(H:HOk k h)(v:Mv):(yb v h.R).length<=k+1/\∀q∈yb v h.R,q.2.length<=k+1:=by
 have h1:=H.rn;have h2:=H.rl;unfold yb;split
 .refine#[JA (app_len ..)<|01,λq hq=>?_];rcases zVO hq with hq|⟨q',z,e⟩|e
  .have:=h2 q hq;omega
  .grind
  .omega
 .refine#[by rw[Pv];omega,λq hq=>?_];rcases Pw hq with hq|⟨q',z,e⟩
  .have:=h2 q hq;omega
  .have:=h2 q' z;rw[e];simp;omega
def zSM(H:HOk k h){v:Mv}(hs:HK h v.who>.act v.t o prs)(hn:(v.w,n)∈prs):HOk (k+1) (AL h v n):=by
 let(r1,r2):=xw H v;have hl:=H.pl;refine#[by simp[AL,H.len],H.m4,λi p U e1 z=>?_,H.st,r1,r2,by simp[AL];omega];dsimp[AL]at e1 z;by_cases c:v.who=i
 .subst c
  have cJ:=by
   have:=(vA.mp z).1;simpa using this
  rw[cB cJ]at z;cases z;let(p',n0,s,a1,a2,a3,J,Y,O):=FQ H (by rw[<- H.len];show cJ);rw[e1]at a1;cases a1;rw[hs]at J;cases J;show O.nx _ hn
 .rw[LA c]at z;show H.inn i p U e1 z
def zYJ{h:Hl}(H:HOk k h)(hk:k<=1000)(C:Addr){v:Mv}(hv:v∈uH h):∃n o prs,v.who<h.P.length/\HK h v.who>.act v.t o prs/\(v.w,n)∈prs/\ER h v.who v.w>n/\cW C (QC C h) [CC v]>(QC C<|AL h v n):=by
 let(o,prs,n,w1,w2,w3,w4,Y):=Rf H hv;refine#[n,o,prs,w1,w2,w3,w4,yc λa=>?_];have r1:=H.rn;have r2:=H.rl;have r3:=H.pl;have mc:=zYF H C v;rw[decide_eq_true hv]at mc;have i0:=zYE v;have i1:=Uh v;have i2:=Ui v;have i3:=Uj v;have b1':yr C "can_be_done" 0 (zA (gV 1) zE) (yE C) [.o (some a)<|QC C h,!CC v,.un]>.bl true:=yq rfl (zSK C h) rfl mc
 have s1:(DE (ZO<|lL<|yr C "can_be_done" 0 (zA (gV 1) zE)<|yE C) (λ_=>none)<|λρ=>some<|Out.nx ρ) [.o (some a)<|QC C h,!CC v,.un]>.nx [.o (some a)<|QC C h,!CC v,.un]:=by
  unfold DE ZO lL;rw[b1'];rfl
 have s2:zw 2 (λρ=>((zA (b2 (gR 1) (zC 1) KA)<|zA (b2 (gR 1) (zC 2) KA) zE) ρ).map D.tup) [.o (some a)<|QC C h,!CC v,.un]>.nx [.o (some a)<|QC C h,!CC v,!.tup [.int v.a,.int v.b]]:=by
  refine(zx (d:=.tup [.int v.a,.int v.b]) ?_).trans rfl
  exists 0,i1,i2,wB
 have kt:HM (.tup [.int v.a,.int v.b])>xI (v.a,v.b):=rfl;let(y1,y2):=xw H v;have H1:HOk (k+1) { h with R:=yb v h.R }:=H.rows 01 y1 y2;have of:=Sx (C:=C) (h:=h) (f:="rows") (ρ:=[.o (some a)<|QC C h,!CC v,!.tup [.int v.a,.int v.b]]) (i:=0) (c:=some a) rfl<|Pu C h;have J:=LW (v.a,v.b) h.R
 have pf:∀y ρ',KQ C 0 "rows" (some a) (xP (!.lst (h.P.map JE)) (.f<|.l<|h.at'.map D.int) (.f<|.tl<|iF h.R)<|.f<|.l<|h.past.map CC) (.tl<|iF y) [.o (some a)<|QC C h,!CC v,ρ']=[.o (some a)<|QC C { h with R:=y },!CC v,ρ']:=λy ρ'=>by
  unfold KQ;rw[zRF C h];rfl
 have sF:∀(h1:Hl),HOk (k+1) h1->X7 C 0 "past" (gV 1) [.o (some a)<|QC C h1,!CC v,!.tup [.int v.a,.int v.b]]>.nx [.o (some a)<|QC C { h1 with past:=h1.past++[v] },!CC v,!.tup [.int v.a,.int v.b]]:=λh1 H1=>by
  have of:=Sx (C:=C) (h:=h1) (f:="past") (ρ:=[.o (some a)<|QC C h1,!CC v,!.tup [.int v.a,.int v.b]]) (i:=0) (c:=some a) rfl<|zKh C h1;have l1:(h1.past.map CC).length<1000000:=by have:=H1.pl;rw[lA];omega
  unfold X7;rw[of,dA];dsimp[if_pos l1,NQ,NB,ZA,VA,KQ,WD];rw[zRG C h1];simp[QC,xP]
 have go:∀(i:Nat),i=v.who->HS C (QC C { h with R:=yb v h.R }) [.int i,.str v.w]>QC C #[h.P,h.at'.set v.who n,yb v h.R,h.past]:=λi e=>by
  subst e;show zYH H1 C w4
 have fin:(r8 C [.o (some a)<|QC C h,!CC v,.un])>.nx [.o (some a)<|QC C<|AL h v n,!CC v,!.tup [.int v.a,.int v.b]]:=by
  unfold r8;rw[zI s1,zI s2]
  have s3:(DE (bB<|b2 (b2 (gR 1) (zC 0) KA) (λ_=>some<|D.str "tell") wB) (sq (rY C 0 "rows" (gV 2)<|b2 (gR 1) (zC 3) KA)<|WO C "go_on" 0 (zA (b2 (gR 1) (zC 1) KA)<|zA (b2 (gR 1) (zC 3) KA) zE)<|HS C)<|sq (pY C 0 "rows"<|gV 2)<|WO C "go_on" 0 (zA (b2 (gR 1) (zC 2) KA)<|zA (b2 (gR 1) (zC 3) KA) zE)<|HS C) [.o (some a)<|QC C h,!CC v,!.tup [.int v.a,.int v.b]]>.nx [.o (some a)<|QC C #[h.P,h.at'.set v.who n,yb v h.R,h.past],!CC v,!.tup [.int v.a,.int v.b]]:=by
   have ek:wB (.str<|YO v.t) (.str "tell")>.bl v.t:=by
    rw[eq_str,show iA "tell" = YO true from rfl,xt];cases v.t<;>rfl
   have tst:(bB<|b2 (b2 (gR 1) (zC 0) KA) (λ_=>some<|D.str "tell") wB) [.o (some a)<|QC C h,!CC v,!.tup [.int v.a,.int v.b]]>v.t:=by
    exists i0,ek,dG,zF,gN,gT,FE,MF,zQ,zJ,NF
   unfold DE;rw[tst,dA]
   cases ht:v.t with
   |true=>
    rw[if_pos rfl];rw[ht]at Y;dsimp[if_true]at Y;have ra:=zYI (k:=(v.a,v.b)) (w:=v.w) (R:=h.R);have rb:yb v h.R=QQ (v.a,v.b) v.w h.R:=by simp[yb,ht]
    have t1:rY C 0 "rows" (gV 2) (b2 (gR 1) (zC 3) KA) [.o (some a)<|QC C h,!CC v,!.tup [.int v.a,.int v.b]]>.nx [.o (some a)<|QC C { h with R:=yb v h.R },!CC v,!.tup [.int v.a,.int v.b]]:=by
     rw[rb];unfold rY;rw[of,dA]
     have e3:∀s0,(b2 (gR 1) (zC 3) KA) [s0,!CC v,!.tup [.int v.a,.int v.b]]>.str v.w:=λs0=>by
      exists 0,i3,wB
     dsimp[NQ,NB,ZA,dA,kt]
     cases eg:PF (iF h.R) (xI (v.a,v.b)) with
     |some xs=>
      rw[eg]at ra J;simp only at ra
      have lx:xs.length<1000000:=by
       cases O:h.R.find? λq=>decide (q.1=(v.a,v.b)) with
       |none=>rw[O]at J;simp at J
       |some q=>
        rw[O]at J;dsimp[VA,DF]at J;have:=r2 q<|bG O;rw[J,lA];omega
      dsimp[if_pos lx,e3,VA,ra,pf]
     |none=>
      rw[eg]at ra;simp only at ra;have lx:(iF h.R).length<1000000:=by unfold iF;rw[lA];omega
      dsimp[if_pos lx];have e4:=e3<|.o (some a)<|.ins C<|tJ "rows" (.f<|.tl<|iF h.R++[(xI (v.a,v.b),[])])<|xP (!.lst (h.P.map JE)) (.f<|.l<|h.at'.map D.int) (.f<|.tl<|iF h.R)<|.f<|.l<|h.past.map CC;rw[show KQ C 0 "rows" (some a) (xP (!.lst (h.P.map JE)) (.f<|.l<|h.at'.map D.int) (.f<|.tl<|iF h.R)<|.f<|.l<|h.past.map CC) (.tl<|iF h.R++[(xI (v.a,v.b),[])]) [.o (some a)<|QC C h,!CC v,!.tup [.int v.a,.int v.b]]=[.o (some a)<|.ins C<|tJ "rows" (.f<|.tl<|iF h.R++[(xI (v.a,v.b),[])])<|xP (!.lst (h.P.map JE)) (.f<|.l<|h.at'.map D.int) (.f<|.tl<|iF h.R)<|.f<|.l<|h.past.map CC,!CC v,!.tup [.int v.a,.int v.b]] from rfl,e4];dsimp[VA,ra,pf]
    rw[zI t1];refine(Px (ds:=[.int (v.who:Int),.str v.w]) rfl (zKj C _) ?_<|go v.who rfl).trans rfl;rw[<- Y.1]
    exists 0,i1,i3,wB
   |false=>
    rw[if_neg<|by simp];rw[ht]at Y;dsimp[JB,if_false]at Y;let(z1,z2,U):=Y;have rb:yb v h.R=SJ (v.a,v.b) LH h.R:=by simp[yb,ht]
    have t1:pY C 0 "rows" (gV 2) [.o (some a)<|QC C h,!CC v,!.tup [.int v.a,.int v.b]]>.nx [.o (some a)<|QC C { h with R:=yb v h.R },!CC v,!.tup [.int v.a,.int v.b]]:=by
     rw[rb];unfold pY;rw[of,dA];dsimp[NQ,NB,ZA,dA,kt];unfold zu at U
     cases O:h.R.find? λq=>decide (q.1=(v.a,v.b)) with
     |none=>rw[O]at U;simp at U
     |some q=>
      rw[O]at U J;dsimp[VA,UI]at U J
      cases hq:q.2 with
      |nil=>rw[hq]at U;simp at U
      |cons x xs=>
       rw[hq,kA]at J;rw[J];have rs:=S7 (k:=(v.a,v.b)) (f:=LH) (xs:=x::xs) (R:=h.R) (by rw[O];simp[hq]);dsimp[List.tail_cons]at rs;dsimp[rs,pf]
    rw[zI t1];refine(Px (ds:=[.int (v.who:Int),.str v.w]) rfl (zKj C _) ?_<|go v.who rfl).trans rfl;rw[<- z1]
    exists 0,i2,i3,wB
  rw[zI s3];refine(sF #[h.P,h.at'.set v.who n,yb v h.R,h.past] ?_).trans rfl;have:=zSM H w2 w3;show#[this.len,this.m4,this.inn,this.st,this.rn,this.rl,by change h.past.length<=k+1;omega]
 change(r8 C [.o (some a)<|QC C h,!CC v,.un]).bind _=_;rw[fin];dsimp[dA,xU,ZA,if_true]
def zVP(h:PS m ps d){Ks:L (L Int)}(k:IsPart ps d Ks)(hK:K∈Ks):WR Ks.length (RJ ps d Ks K):=by
 have few:=Sr h.few (k.st K hK)<|k.al K hK;have z:=Dk<|BH ps d K;have mp:(oO ps d Ks K).map (·.1)=yL ps d K:=by unfold oO;rw[UA];show List.map_id _
 have ok:∀o,gZ _ o<|oO ps d Ks K:=λo=>by
  refine#[by unfold oO yL;rw[lA,M6];omega,by rw[mp];show My<|xm _,λq hq=>?_,λq hq=>?_]
  .let(w,hw,rfl):=QA.mp hq;let(x,hx,e):=Qz.mp<|Mn.mp hw;rw[<- e];show(zX2 h.dn hx).2
  .let(w,hw,rfl):=QA.mp hq;have:=zOI<|k.cl K hK w hw;show#[by simp,‹this›]
 unfold RJ
 cases turns ps d K with
 |nil=>trivial
 |cons t ts=>
  simp
  cases ask t d with
  |fin=>trivial
  |tells b ws=>show ok b
  |hears a=>show ok a
def Gi(ps:L Pl)(i:Nat)(p:L St):=(∃Ks,IsPart ps i Ks/\p=Ks.map (RJ ps i Ks):Prop)
def tU(ps:L Pl):L Nat->L (L St)->Prop
 | [],P=>P=[]
 |i::is,P=>∃p r,P=p::r/\Gi ps i p/\tU ps is r
theorem tU.get:∀{is:L Nat}{P:L (L St)},tU ps is P->P.length=is.length/\∀(j:Nat)(p:L St),P[j]?>p->∃i,is[j]?>i/\Gi ps i p
 | [],P,h=>by subst h;show#[rfl,λj p e=>by simp at e]
 |i::is,P,h=>by
  let(p,r,rfl,h1,h2):=h;let(l,g):=h2.get;refine#[by simp[l],λj q e=>?_]
  cases j with
  |zero=>simp at e;subst e;show#[i,rfl,h1]
  |succ j=>simpa using g j q e
noncomputable def NP:L (Except Nat D)->Except Nat (L D)
 | []=>.ok []
 |.error c::_=>.error c
 |.ok y::r=>match NP r with
  |.ok ys=>.ok (y::ys)
  |.error c=>.error c
theorem zKk{Y:XA->Op (Except Nat D)}{r:Nat->Except Nat D}:∀(is:L Nat),(∀i∈is,Y [s0,s1,!.int (i:Int)]>r i)->c8 (gN 2) Y (is.map λ(i:Nat)=>D.int<|0+(i:Int)) [s0,s1,.un]>(NP<|is.map r)
 | [],_=>rfl
 |i::is,h=>by
  have ih:=zKk is λj hj=>h j<|cA _ hj
  have hi:=h i eA;have g:gN 2 (D.int<|0+i) [s0,s1,.un]>[s0,s1,!.int i]:=by rw[lD];rfl
  rw[kA,c8,g,dA,hi,dA,kA,ih]
  cases r i with
  |error c=>rfl
  |ok y=>
   rfl
def kL(m:Int)(ps:L Pl)(i:Nat):=((yR [EB m ps,.int (i:Int)]).getD<|.error 0:Except Nat D)
def zKl{m:Int}{ps:L Pl}(hd:zj m ps)(hf:cN ps){i:Nat}(hi:(i:Int)<m):yR [EB m ps,.int (i:Int)]>kL m ps i/\(kL m ps i=.error 0\/∃p,Gi ps i p/\kL m ps i=.ok (JE p)):=by
 unfold kL;rcases zVJ #[hd,hf,01,hi] with e|⟨Ks,hk,e⟩
 .rw[e];show#[rfl,.inl rfl]
 .rw[e];show#[rfl,.inr #[_,#[Ks,hk,rfl],rfl]]
def zLl{f:FD}(M:L D->Op (Except Nat D))(h:f ρ>ds):(λρ=>(f ρ).bind M) ρ=M ds:=by simp_all
def Gq(C:Addr)(m:Int)(ps:L Pl)(s0:Sl)(d:D):X6 C [s0,!EB m ps,.v d]=yR [EB m ps,d]:=by
 show zLl _ rfl
theorem zIW(hd:zj m ps)(hf:cN ps):∀(is:L Nat),(∀i∈is,(i:Int)<m)->NP (is.map<|kL m ps)=.error 0\/∃P,tU ps is P/\is.map (kL m ps)=P.map (λp=>.ok<|JE p)/\NP (is.map<|kL m ps)=.ok (P.map JE)
 | [],_=>.inr #[[],rfl,rfl,rfl]
 |i::is,h=>by
  have hi:=h i eA;have ih:=zIW hd hf is λj hj=>h j<|cA _ hj
  rw[kA];rcases(zKl hd hf hi).2 with e|⟨p,hp,e⟩
  .left;rw[e];rfl
  .rw[e];rcases ih with e' | ⟨P,z,hq,e'⟩
   .left;dsimp[NP,e']
   .right
    show#[p::P,#[_,_,rfl,hp,z],by simp_all,by dsimp[NP,e',kA]]
noncomputable def qM(P:L (L St)):Hl:=#[P,P.map λ_=>0,[],[]]
def zRH{m:Int}(hd:zj m ps)(hf:cN ps){P:L (L St)}(h:tU ps (DA m.toNat) P):HOk 0 (qM P)/\P.length=m.toNat:=by
 let(l,g):=h.get;rw[dE]at l;have hm:=hd.m1
 have one:∀(j:Nat)(p:L St),P[j]?>p->0<p.length/\∀s∈p,WR p.length s:=λj p e=>by
  let(i,J,Ks,hk,rfl):=g j p e;have hi:=VB.mp<|xA J;refine#[?_,λs hs=>?_]
  .have:=(vA.mp hk.ze).1
   simp_all
  .let(K,hK,rfl):=QA.mp hs;rw[lA];show zVP #[hd,hf,01,01] hk hK
 refine#[#[by simp[qM],by dsimp[qM];omega,λi p n e1 z=>?_,λp hp=>?_,by simp[qM],by simp[qM],by simp[qM]],l]
 .dsimp[qM,MA]at e1 z;rw[e1]at z;simp at z;subst z;have:=(one i p e1).1;omega
 .let(j,e):=vO hp;show(one j p e).2
def Ep{fs:L (Str×Fl)}(h1:fs.lookup f=none)(h2:fs.length<900):mO C 0 f x [.o c<|.ins C fs,s1]>.nx [.o c<|.ins C<|fs++[(f,x)],s1]:=by
 have h3:(VC f fs).isNone=true:=by rw[h1];rfl
 dsimp[mO,ZA,h3,h2,and_self,if_true,WD]
def zOi(C:Addr)(s0 s1:Sl)(P:L (L St)):zF (gN 2) (λ_=>some true) (CW C) (P.map JE) [s0,s1,.un]>(P.map λ_=>(0:Int)).map D.int:=by
 have:=zS (g:=gN 2) (p:=λ_=>some true) (f:=CW C) (emb:=JE) (ρ:=[s0,s1,.un]) _ _ P λp _=>#[_,rfl,rfl,λ_=>rfl]
 rw[this,sC.mpr (by simp),UA];rfl
def zOj{m:Int}{ps:L Pl}(hd:zj m ps)(hf:cN ps)(C:Addr):(NP ((DA m.toNat).map<|kL m ps)=.error 0/\KW C (.ins C []) [EB m ps]>.error 0)\/∃P,tU ps (DA m.toNat) P/\(DA m.toNat).map (kL m ps)=P.map (λp=>.ok<|JE p)/\KW C (.ins C []) [EB m ps]>(.ok<|QC C<|qM P):=by
 have hm:=hd.m1;have Wi:=hd.m0;have inr:∀i∈DA m.toNat,(i:Int)<m:=λi hi=>by have:=VB.mp hi;omega
 have rg:∀s0,WH (zA (b2 (gR 1) (zC 0) KA) zE) [s0,!EB m ps]>rng 0 m.toNat:=λs0=>by
  refine KP ?_ 01;have i0:KA (EB m ps) (.int 0)>.int m:=by dsimp[EB,KA,FJ]
  rw[show((m.toNat:Nat):Int)=m by omega]
  exists 0,i0,wB
 have rl:(rng 0 m.toNat).length<=1000000:=by rw[Rb];omega
 have sc:∀a,jY 1 (WH _) (gN 2) (X6 C) [.o (some a)<|.ins C [],!EB m ps]>(NP<|(DA m.toNat).map<|kL m ps):=λa=>by
  unfold jY;rw[rg,dA,if_pos rl];show zKk _ λi hi=>(Gq C m ps _ _).trans (zKl hd hf<|inr i hi).1
 rcases zIW hd hf (DA m.toNat) inr with e|⟨P,Y,hq,e⟩
 .left
  refine#[e,yc λa=>?_];change(kY C [.o (some a)<|.ins C [],!EB m ps]).bind _=_;unfold kY;rw[R7 (c:=0) (by unfold B7;rw[sc a,e];rfl)];rfl
 .right
  let(hl,_):=Y.get;rw[dE]at hl;refine#[P,Y,hq,yc λa=>?_];change(kY C [.o (some a)<|.ins C [],!EB m ps]).bind _=_;unfold kY
  have t1:B7 C 0 "parts" (jY 1 (WH<|zA (b2 (gR 1) (zC 0) KA) zE) (gN 2)<|X6 C) [.o (some a)<|.ins C [],!EB m ps]>(.o<|.nx [.o (some a)<|.ins C [(iA "parts",!.lst (P.map JE))],!EB m ps]):=by
   unfold B7;rw[sc a,e,dA];simp only;rw[Ep rfl<|02];rfl
  rw[BR t1]
  have U:(λρ=>(CI C 0 (iA "parts") ρ).bind wV) [.o (some a)<|.ins C [(iA "parts",!.lst (P.map JE))],!EB m ps]>(.lst<|P.map JE):=by
   dsimp[CI,eM,ZA,dA,lO,if_true,kB,beq_self_eq_true,wV]
  have cz:=zOi C (.o (some a)<|.ins C [(iA "parts",!.lst (P.map JE))]) (!EB m ps) P;have z:VC (iA "at") [(iA "parts",Fl.v<|.lst<|P.map JE)]=none:=by dsimp[kB,jb,dH]
  have t2:(λρ=>((zB 1 (iL<|λρ=>(CI C 0 (iA "parts") ρ).bind wV) (gN 2) (λ_=>some true)<|CW C) ρ).bind λxs=>mO C 0 (iA "at") (.f<|.l xs) ρ) [.o (some a)<|.ins C [(iA "parts",!.lst (P.map JE))],!EB m ps]>.nx [.o (some a)<|.ins C [(iA "parts",!.lst (P.map JE)),(iA "at",.f<|.l<|(P.map λ_=>(0:Int)).map D.int)],!EB m ps]:=by
   have cc:zB 1 (iL<|λρ=>(CI C 0 (iA "parts") ρ).bind wV) (gN 2) (λ_=>some true) (CW C) [.o (some a)<|.ins C [(iA "parts",!.lst (P.map JE))],!EB m ps]>(P.map λ_=>(0:Int)).map D.int:=by
    unfold zB iL;simp only at U;dsimp[U,j9,dA];rw[if_pos (by rw[lA];omega)];show cz
   dsimp[cc,dA];rw[Ep z<|by simp];rfl
  have J:VC (iA "rows") [(iA "parts",Fl.v<|.lst<|P.map JE),(iA "at",.f<|.l<|(P.map λ_=>(0:Int)).map D.int)]=none:=by dsimp[kB,Za,kn,dH]
  have O:VC (iA "past") [(iA "parts",Fl.v<|.lst<|P.map JE),(iA "at",.f<|.l<|(P.map λ_=>(0:Int)).map D.int),(iA "rows",.f<|.tl [])]=none:=by dsimp[kB,Zb,kq,Zl,dH]
  have t3:=Ep (C:=C) (f:=iA "rows") (x:=.f<|.tl []) (c:=some a) (s1:=!EB m ps) J (by simp);have t4:=Ep (C:=C) (f:=iA "past") (x:=.f<|.l []) (c:=some a) (s1:=!EB m ps) O (by simp)
  have t5:(oX<|sq (λρ=>((zB 1 (iL<|λρ=>(CI C 0 (iA "parts") ρ).bind wV) (gN 2) (λ_=>some true)<|CW C) ρ).bind λxs=>mO C 0 (iA "at") (.f<|.l xs) ρ)<|sq (λρ=>mO C 0 (iA "rows") (.f<|.tl []) ρ)<|λρ=>(zE ρ).bind λxs=>mO C 0 (iA "past") (.f<|.l xs) ρ) [.o (some a)<|.ins C [(iA "parts",!.lst (P.map JE))],!EB m ps]>(.o<|.nx [.o (some a)<|QC C<|qM P,!EB m ps]):=by
   refine IU ?_;rw[zI t2,zI t3];show t4
  rw[t5];dsimp[dA,xU,ZA,if_true,VA]
def zOk{m:Int}(hd:zj m ps)(hf:cN ps)(C:Addr):(NP ((DA m.toNat).map<|kL m ps)=.error 0/\D6 C [EB m ps]>.v .non)\/∃P,tU ps (DA m.toNat) P/\(DA m.toNat).map (kL m ps)=P.map (λp=>.ok<|JE p)/\D6 C [EB m ps]>(.o none<|QC C<|qM P):=by
 have s1:zw 1 (λ_=>some _) [.v _,.un]>.nx [!EB m ps,.v .non]:=rfl;have go:D6 C [EB m ps]=(Bw C [.v _,.un]).bind _:=rfl;rw[go];unfold Bw;rw[zI s1];rcases zOj hd hf C with⟨e0,e⟩|⟨P,z,hq,e⟩
 .left
  refine#[e0,?_]
  have t:fY C 1 (zA (gV 0) zE) (KW C) 0 (zw 1<|λ_=>some D.non) [!EB m ps,.v .non]>.nx [!EB m ps,.v .non]:=by
   unfold fY;rw[show(zA _ _) _>_ from rfl,dA,e];rfl
  rw[zI t];rfl
 .right
  refine#[P,z,hq,?_]
  have t:fY C 1 (zA (gV 0) zE) (KW C) 0 (zw 1<|λ_=>some D.non) [!EB m ps,.v .non]>.nx [!EB m ps,.o none<|QC C<|qM P]:=by
   unfold fY;rw[show(zA _ _) _>_ from rfl,dA,e];rfl
  rw[zI t];rfl
end LG
namespace K04
open PySem L2 RD LG
def qN:=((sV (bB<|b2 (b2 (b2 (gR 0) (zC 1) KA) (gR 3) KA) ((zA (λ_=>some<|D.str "end") zE)<&>D.tup) wB)<|bB<|b2 (gV 1) (GJ (b2 (b2 (gR 0) (zC 1) KA) (gR 3) KA) (oI<|zC 1) (oI<|zC 3) aK) JI):QE)
def Mq:=((gV 3):TB)
noncomputable abbrev jc:L Str:=["_law_dance_here","_law_dancer","_law_some"]
def Nd:=((qc<|(zB 1 (iT<|gV 2) (gN 3) qN Mq)<&>D.lst):AB)
def qh(ds:L D):=(BI jc Nd ds:Op D)
def Am:=((b2 (gR 8) (zC 0) KA):TB)
def qO:=((sq (zw 5<|b2 (b2 (gR 0) (zC 1) KA) (gR 4) KA)<|sq (zw 6<|(zA (λ_=>some<|D.str "end") zE)<&>D.tup)<|sq (DE (QS (bB<|b2 (b2 (gR 5) (zC 0) KA) (λ_=>some<|D.str "tell") wB)<|bB<|b2 (b2 (gR 5) (zC 1) KA) (gR 1) wB) (sq (zw 7 λρ=>((zB 1 (iT<|b2 (gR 5) (zC 3) KA) (gN 8) (λ_=>some true) Am) ρ).map D.lst)<|zw 6<|(zA (λ_=>some<|D.str "tells")<|zA (b2 (gR 5) (zC 2) KA)<|zA (b1 (gR 7) OH) zE)<&>D.tup)<|DE (bB<|b2 (b2 (gR 5) (zC 0) KA) (λ_=>some<|D.str "tell") wB) (zw 6<|(zA (λ_=>some<|D.str "hears")<|zA (b2 (gR 5) (zC 1) KA) zE)<&>D.tup)<|λρ=>some<|Out.nx ρ)<|DE (bB<|b2 (gV 6) (gR 3) EK) (vJ 3<|gV 6)<|λρ=>some<|Out.nx ρ):AB)
noncomputable abbrev jd:L Str:=["_law_dance_here","_law_dancer","_law_turns_here","_law_kinds_here","_law_at","_law_place","_law_kind","_law_words"]
def Bh:=((sq (yJ 3 zE)<|sq (zN (iL<|gV 2) (gN 4) qO)<|qc λρ=>KU ρ 3):AB)
def Nf(ds:L D):=(BI jd Bh ds:Op D)
def Zc:=((IR<|(zA (λ_=>some<|D.str "rests") zE)<&>D.tup):AB)
def qP:=((DE (ZO<|lL<|(zA (gV 0)<|zA (gV 1)<|zA ((zA (gV 0)<|zA (gV 1)<|zA ((zA (gV 6) zE)<&>D.tup) zE)>>=yt) zE)>>=qh) (IR<|λ_=>some D.non)<|λρ=>some<|Out.nx ρ):AB)
def Zd:=((IR<|(zA (λ_=>some<|D.str "end") zE)<&>D.tup):AB)
def Mr:=((b2 (gR 11) (zC 0) KA):TB)
def ya:=((cP 7<|zB 1 (iT<|b2 (b2 (b2 (gR 0) (zC 1) KA) (gR 6) KA) (zC 3) KA) (gN 11) (λ_=>some true) Mr):AB)
def qQ:=((bB<|b2 (b2 (gR 11) (zC 0) KA) (gR 9) wB):QE)
def qR:=((b2 (gR 11) (zC 1) KA):TB)
def qS:=((cP 10<|zB 1 (iT<|b2 (b2 (b2 (gR 0) (zC 1) KA) (gR 6) KA) (zC 3) KA) (gN 11) qQ qR):AB)
def qU:=((sq (yJ 10 zE)<|sq (zN (iL<|gV 4) (gN 6) qS)<|λρ=>(sq (zw 10<|(zA (gV 0)<|zA (gV 1)<|zA (gV 10) zE)>>=yt)<|sq (DE (bB<|b2 (gV 10) (bO 3) EK) (vY 3<|gV 10)<|λρ=>some<|Out.nx ρ)<|vJ 8<|(zA (gV 9)<|zA (b2 (bO 3) (gV 10) bX) zE)<&>D.tup)<|frz 10 ρ):AB)
def qr:=((IR<|(zA (b2 (b2 (gR 5) (zC 0) KA) (zC 0) KA)<|zA (b2 (b2 (gR 5) (zC 0) KA) (zC 1) KA)<|zA (b1 (gR 8) OH) zE)<&>D.tup):AB)
def Me:=((sq (yJ 8 zE)<|sq (zN (iL<|(tP (gR 7) cX)<&>D.lst) (gN 9) qU) qr):AB)
def yh:=((sq (yJ 7 zE)<|sq (zN (iL<|gV 4) (gN 6) ya) Me):AB)
def yi:=((sq (DE (bB<|b2 (b2 (gR 5) (zC 0) KA) ((zA (λ_=>some<|D.str "end") zE)<&>D.tup) wB) Zd<|λρ=>some<|Out.nx ρ) yh):AB)
def qt:=((sq (zN (iT<|gV 2) (gN 6) qP) yi):AB)
def yj:=((sq (DE (bB<|b2 (b1 (gR 5) pH) (zC 1) fR) (IR<|λ_=>some D.non)<|λρ=>some<|Out.nx ρ) qt):AB)
def yk:=((sq (DE (ZO<|lL<|gR 4) Zc<|λρ=>some<|Out.nx ρ) yj):AB)
def Mf:=((sq (zw 5<|(zA (gV 0)<|zA (gV 1)<|zA (gV 4) zE)>>=Nf) yk):AB)
noncomputable abbrev jf:L Str:=["_law_dance_here","_law_dancer","_law_some","_law_known","_law_turns_here","_law_kinds_here","_law_at","_law_words","_law_pairs","_law_word_here","_law_nexts"]
def yv:=((sq (zw 4<|(zA (gV 0)<|zA (gV 1)<|zA (gV 2) zE)>>=qh) Mf):AB)
def Bi(xs:L Ag):=(HY jf yv xs:Op (D×L Ag))
def yz:=((bB<|b2 (b1 (gR 3) pH) (b1 (gR 2) pH) V9):QE)
def z8:=((sq (Fm 4 [none,none,none,some 2] (cV (gV 0)<|cV (gV 1)<|cV (b2 (gR 2) (b1 (gR 3) pH) KA)<|cT DO 2 zE) Bi)<|sq (DE (bB<|b2 (gR 4) (λ_=>some D.non) Wv) (qc<|λ_=>some D.non)<|λρ=>some<|Out.nx ρ)<|vJ 3<|gV 4):AB)
noncomputable abbrev vc:L Str:=["_law_dance_here","_law_dancer","_law_known","_law_states","_law_state_here"]
def By:=((sq (yJ 2<|zA ((zA (gV 0)<|zA (gV 1)<|zA ((zA (zC 0) zE)<&>D.tup) zE)>>=yt) zE)<|sq (yJ 3 zE)<|sq (HW 20000000 yz z8)<|qc<|b1 (gR 3) OH):AB)
def E6(ds:L D):=(BI vc By ds:Op D)
end K04
namespace LG
open PySem L2 RD
def zJV{ps:L Pl}(h:zj m ps){found ws:L Int}(hf:found.length<=1000)(hw:ws.length<=1000)(hl:ws.getLast?>n)(hn:0<=n/\n<(ps.length:Int)):
  ∃CQ OF,zh [!EB m ps,!.int d,s2,.l<|found.map D.int,.l<|ws.map D.int,s5,s6]>.nx [!EB m ps,!.int d,s2,.l<|(if n∈found then found else found++[n]).map D.int,.l<|(if n∈found then ws.dropLast else ws.dropLast++ML ps d n).map D.int,CQ,OF]:=by
 let(p,hp,e1,e2):=i8 hn.1 hn.2;have ok:=h.ok p hp
 have g1:(ws.map D.int)[ws.length-1]?>.int n:=by
  rw[MA,<- QL,hl];rfl
 have hd:(ws.map D.int).dropLast=ws.dropLast.map D.int:=by rw[TQ]
 have few:=ok.few;have E9:(cG p).length<=1000000:=01
 have J9:ws.length-1+(cG p).length<=1000000:=01
 have Y:found.length<16000000:=01
 have ni:EK (.int n) (.lst<|found.map D.int)>(.bl<|decide<|n∉found):=by
  have f:∀a:Int,GD (.int a) (.int n)=(a==n):=λa=>by unfold GD;rfl
  unfold EK;rw[if_pos<|by simp[LF]];dsimp[OI,Function.comp_def,f]
  congr 2
  by_cases e:n∈found
  .simp[e]
  .simp[e];intro x hx q;subst q;show e hx
 by_cases hm:n∈found
 .have O:EK (.int n) (.lst<|found.map D.int)>.bl false:=by rw[ni];simp[hm]
  refine#[!.int n,s6,?_];dsimp[hm,if_true]
  exists 0,zh,OQ,g1,O,hd,KA,wB
 .have O:EK (.int n) (.lst<|found.map D.int)>.bl true:=by rw[ni];simp[hm]
  refine#[!.int n,!fC p,?_];dsimp[hm,if_false];have e0:KA (EB m ps) (.int 1)>(.tup<|ps.map fC):=by dsimp[EB,KA,bR]
  have e5:KA (.tup<|ps.map fC) (.int n)>fC p:=e2
  have dn:∀a:Int,NF (.int d) (.int a)>(.bl<|not<|decide (d=a)):=λa=>by
   unfold NF;rw[if_pos<|by simp[LF]];unfold GD;rw[fF]
  cases p with
  |fin=>
   have z:ML ps d n=[]:=by simp[ML,e1,cG,tp]
   have U:KA (fC .fin) (.int 0)>.str "end":=by dsimp[fC,KA,FJ]
   exists 0,zh,OQ,g1,O,hd,Y,e0,e5,U,z,zKM,uA,wB
  |tell a b ch=>
   have U:KA (fC<|.tell a b ch) (.int 0)>.str "tell":=by dsimp[fC,KA,FJ]
   have x1:KA (fC<|.tell a b ch) (.int 1)>.int a:=by dsimp[fC,KA,bR]
   have x2:KA (fC<|.tell a b ch) (.int 2)>.int b:=by dsimp[fC,KA,at2]
   have x3:KA (fC<|.tell a b ch) (.int 3)>(.tup<|ch.map ZD):=by dsimp[fC,KA,k9]
   dsimp[cG]at E9 J9;by_cases ha:d=a
   .have z:ML ps d n=[]:=by simp[ML,e1,cG,tp,ha]
    exists zh,OQ,g1,O,hd,Y,e0,e5,U,x1,dn,decide_eq_true ha,z,beq_self_eq_true,uA,wB,GD,dG,zF,gN,gT,FE,MF,zQ,zJ
   .by_cases hb:d=b
    .have z:ML ps d n=[]:=by simp[ML,e1,cG,tp,hb]
     exists zh,OQ,g1,O,hd,Y,e0,e5,U,x1,x2,dn,decide_eq_false ha,decide_eq_true hb,z,beq_self_eq_true,uA,wB,GD,dG,zF,gN,gT,FE,MF,zQ,zJ
    .have z:ML ps d n=ch.map (·.2):=by simp[ML,e1,cG,tp,ha,hb]
     have cs:=zKN [!EB m ps,!.int d,s2,.l<|found.map D.int++[.int n],.l<|ws.dropLast.map D.int,!.int n,!fC (.tell a b ch)] rfl ch;unfold zh;generalize (b2 (gR 7) (zC 1) KA)=el at cs|-;dsimp[MB,WB]at cs
     exists OQ,g1,O,hd,Y,e0,e5,U,x1,x2,x3,dn,decide_eq_false ha,decide_eq_false hb,z,beq_self_eq_true,uA,E9,cs,UC,J9,wB,GD,dG,gN,gT,FE,MF,zQ,zJ
def zYK{ws:L Int}:yY [s0,s1,s2,s3,.l<|ws.map D.int,s5,s6]>(decide<|0<ws.length):=by
 exists 0,yY,KA,wB
 cases ws<;>simp
theorem Uk{ps:L Pl}(h:zj m ps)(d:Int):∀(k:Nat)(found ws f:L Int),FH ps ws->found.length+oU ps.length found<=40->4*oU ps.length found+ws.length<k->k<=1000->run ps d k found ws>f ->
  ∀s2 s5 s6,∃U Y,RM yY zh k [!EB m ps,!.int d,s2,.l<|found.map D.int,.l<|ws.map D.int,s5,s6]>.nx [!EB m ps,!.int d,s2,.l<|f.map D.int,.l [],U,Y]
 |0,_,_,_,_,_,hk,_,_=>01
 |k+1,found,ws,f,hi,hf,hk,ZT,hr=>λs2 s5 s6=>by
  unfold run at hr
  cases e:ws.getLast? with
  |none=>
   rw[e]at hr;cases hr;have:=Zk e;subst this
   show#[s5,s6,Nq zYK]
  |some n=>
   rw[e]at hr;let(ew,hp):=Cu e;have hn:=hi n (by rw[ew];simp);have z:=λx hx=>hi x<|(rH _).subset hx
   let(J,O,tA):=zJV h (d:=d) (found:=found) 01 01 e hn;have go:yY [!EB m ps,!.int d,s2,.l<|found.map D.int,.l<|ws.map D.int,s5,s6]>true:=by rw[zYK];simp[hp]
   by_cases hm:n∈found
   .dsimp[hm,if_true]at tA hr;let(a,b,e'):=Uk h d k found _ f z hf (by rw[UC];omega) 01 hr s2 J O;show#[a,b,by rw[p6 go<|.inl tA,e']]
   .dsimp[hm,if_false]at tA hr;have u:=zKO hn.1 hn.2 hm;let(o1,o2):=Qx h d n
    let(a,b,e'):=Uk h d k _ _ f (λx hx=>by
     rcases pA.mp hx with hx|hx
     .show z x hx
     .show o1 x hx) (by simp;omega) (by rw[OA,UC];omega) 01 hr s2 J O
    show#[a,b,by rw[p6 go<|.inl tA,e']]
def Py(h:zj m ps)(d:Int){S:L Int}(hs:FH ps S)(hl:S.length<=100)(hx:x=.lst (S.map D.int)\/x=.tup (S.map D.int)):yt [EB m ps,.int d,x]>(zp<|mE ps d S):=by
 let(f,e1,O,_):=zKP h d S hs hl;have z:mE ps d S=EM f:=by simp[mE,e1]
 have U:=zSC ps.length [];have hn:=h.n1;let(a,b,e):=Uk h d _ [] S f hs (by grind) 01 01 e1 (.v x) .un .un;have J:=xg (l:=f) 01;change(Bf [.v _,.v _,.v x,.un,.un,.un,.un]).bind _=_;unfold Bf;rw[zI rfl,zI ?g1,zI (F:=HW _ _ _) e,Di ?g2,z]
 .rfl
 case g1=>
  rcases hx with rfl|rfl<;>rfl
 case g2=>
  change(QF _<|ME (some _) _).bind _=_;rw[dA,show uR _=JQ _ from rfl,J];rfl
end LG
namespace K04
open PySem L2 RD LG
noncomputable def pG(ps:L Pl)(n:Int):Pl:=(ps[n.toNat]?).getD .fin
def JH(ps:L Pl)(d:Int)(S:L Int):=(S.filter λn=>pR (pG ps n) d:L Int)
def MW{ps:L Pl}{n:Int}(h0:0<=n)(h1:n<(ps.length:Int)):ps[n.toNat]?>pG ps n/\EF (ps.map fC) n>(fC<|pG ps n):=by
 let(p,_,e1,z):=i8 h0 h1;unfold pG;rw[e1];show#[rfl,z]
theorem C6:∀{S:L Int},FH ps S->turns ps d S=(JH ps d S).map (pG ps)
 | [],_=>rfl
 |n::S,h=>by
  have hn:=h n eA;have ih:=C6 (d:=d) λx hx=>h x<|cA _ hx
  let(e1,_):=MW hn.1 hn.2;unfold turns JR JH at *;rw[rC,e1,AG,AG];split
  .simp_all
  .show ih
def Sy(h:FH ps S):FH ps (JH ps d S):=λn hn=>h n (cD.mp hn).1
def LX{ps:L Pl}:KA (EB m ps) (.int 1)>(.tup<|ps.map fC):=rfl
def zKn(d:Int){S:L Int}(hi:FH ps S)(hl:S.length<=1000):qh [EB m ps,.int d,.tup<|S.map D.int]>(.lst<|(JH ps d S).map D.int):=by
 have cs:zF (gN 3) qN Mq (S.map D.int) [!EB m ps,!.int d,!.tup (S.map D.int),.un]>(JH ps d S).map D.int:=by
  refine zS _ _ S λn hn=>#[_,rfl,?_,λ_=>rfl]
  let(e1,U):=MW (hi n hn).1 (hi n hn).2;have J:KA (.tup _) (.int n)>_:=U;generalize pG ps n=p at e1 U J|-
  cases p with
  |fin=>
   have O:wB (fC .fin) (.tup [.str "end"])>.bl true:=by
    unfold wB;rw[if_pos (JA (tT _ _)<|by simp[LF,GH]),Sn]
   exists 0,qN,LX,J,O,pR
  |tell a b ch=>
   have O:wB (fC<|.tell a b ch) (.tup [.str "end"])>.bl false:=by
    unfold wB;rw[if_pos (JA (tT _ _)<|by simp[LF,GH]),Sn]
   exists 0,qN,LX,J,O,pR,tp
   change((some<|D.tup [.int a,.int b]).bind _).bind _=_;rw[dA,Wt];rfl
 have z:S.length<=1000000:=01
 exists qh,Nd,z,cs,EF,WG,KA,wB,GD,dG,gN,gT,FE,MF,zQ,zJ,NF
noncomputable def tO(l:L Ask):L Ask:=l.foldl (λacc x=>if x∈acc then acc else acc++[x]) []
def zVR(x:Ask)(acc:L Ask):EK (zX x) (.lst<|acc.map zX)>(.bl<|decide<|x∉acc):=by
 unfold EK;rw[if_pos<|zN8 x];dsimp[OI,Function.comp_def,zSD];by_cases e:x∈acc
 .simp[e]
 .simp[e];intro y hy q
  simp_all
def zOm{ps:L Pl}(h:zj m ps)(hn:0<=n/\n<(ps.length:Int)){acc:L Ask}(hl:acc.length<=1000):
  ∃CQ OF eJ,qO [!EB m ps,!.int d,s2,.l<|acc.map zX,!.int n,s5,s6,s7]>.nx [!EB m ps,!.int d,s2,.l<|(if ask (pG ps n) d∈acc then acc else acc++[ask (pG ps n) d]).map zX,!.int n,CQ,OF,eJ]:=by
 let(e1,e2):=MW hn.1 hn.2;have ok:=h.ok _<|xA e1;have Y:KA (.tup<|ps.map fC) (.int n)>(fC<|pG ps n):=e2;generalize pG ps n=p at e1 e2 Y ok|-;have l0:acc.length<16000000:=01
 have fin:∀s5 s7,(DE (bB<|b2 (gV 6) (gR 3) EK) (vJ 3<|gV 6)<|λρ=>some<|Out.nx ρ) [!EB m ps,!.int d,s2,.l<|acc.map zX,!.int n,s5,!UM p d,s7]>.nx [!EB m ps,!.int d,s2,.l<|(if ask p d∈acc then acc else acc++[ask p d]).map zX,!.int n,s5,!UM p d,s7]:=λs5 s7=>by
  rw[Qy];have J:=zVR (ask p d) acc;by_cases c:ask p d∈acc
  .rw[decide_eq_false<|by simpa using c]at J;dsimp[c,if_true]
   exists 0,J,KA,wB
  .rw[decide_eq_true c]at J;dsimp[c,if_false]
   exists 0,J,l0,uA,KA,wB
 unfold qO
 cases p with
 |fin=>
  have O:KA (fC .fin) (.int 0)>.str "end":=by dsimp[fC,KA,FJ]
  have es:wB (.str "end") (.str "tell")>.bl false:=by
   unfold wB;rw[if_pos<|by simp[LF]];unfold GD;rw[zKM]
  refine#[_,_,_,(zI (ρ':=[!EB m ps,!.int d,s2,.l<|acc.map zX,!.int n,!fC .fin,s6,s7]) ?_).trans<|(zI (ρ':=[!EB m ps,!.int d,s2,.l<|acc.map zX,!.int n,!fC .fin,!UM .fin d,s7]) rfl).trans<|(zI (ρ':=[!EB m ps,!.int d,s2,.l<|acc.map zX,!.int n,!fC .fin,!UM .fin d,s7]) ?_).trans<|fin _ _]
  .exists 0,LX,Y,wB
  .exists 0,O,es
 |tell a b ch=>
  have O:KA (fC<|.tell a b ch) (.int 0)>.str "tell":=by dsimp[fC,KA,FJ]
  have x1:KA (fC<|.tell a b ch) (.int 1)>.int a:=by dsimp[fC,KA,bR]
  have x2:KA (fC<|.tell a b ch) (.int 2)>.int b:=by dsimp[fC,KA,at2]
  have x3:KA (fC<|.tell a b ch) (.int 3)>(.tup<|ch.map ZD):=by dsimp[fC,KA,k9]
  have es:wB (.str "tell") (.str "tell")>.bl true:=by
   unfold wB;rw[if_pos<|by simp[LF]];unfold GD;simp
  have z:wB (.int a) (.int d)>(.bl<|decide<|a=d):=by
   unfold wB;rw[if_pos<|by simp[LF]];unfold GD;rw[fF]
  have l1:ch.length<=1000000:=by have:=ok.l1;omega
  have s1:(zw 5<|b2 (b2 (gR 0) (zC 1) KA) (gR 4) KA) [!EB m ps,!.int d,s2,.l<|acc.map zX,!.int n,s5,s6,s7]>.nx [!EB m ps,!.int d,s2,.l<|acc.map zX,!.int n,!fC (.tell a b ch),s6,s7]:=by
   exists 0,LX,Y,wB
  by_cases c:a=d
  .have U:UM (.tell a b ch) d=.tup [.str "tells",.int b,.tup<|ch.map λq=>.str q.1]:=if_pos c;rw[decide_eq_true c]at z
   have cf:=Ou (f:=Am) [!EB m ps,!.int d,s2,.l<|acc.map zX,!.int n,!fC (.tell a b ch),!.tup [.str "end"],s7] ch 8 λq=>by
    exists 0,Am,ZD,FJ,KA,wB
   dsimp[MB,WB]at cf;refine#[_,_,_,(zI s1).trans<|(zI rfl).trans<|(zI (ρ':=[!EB m ps,!.int d,s2,.l<|acc.map zX,!.int n,!fC (.tell a b ch),!UM (.tell a b ch) d,.v<|.lst<|ch.map λq=>.str q.1]) ?_).trans<|fin _ _];rw[U]
   exists O,x1,x2,x3,es,z,l1,cf,GD,dG,gN,gT,FE,MF,zQ,zJ,NF
  .have U:UM (.tell a b ch) d=.tup [.str "hears",.int a]:=if_neg c;rw[decide_eq_false c]at z;refine#[_,_,_,(zI s1).trans<|(zI rfl).trans<|(zI (ρ':=[!EB m ps,!.int d,s2,.l<|acc.map zX,!.int n,!fC (.tell a b ch),!UM (.tell a b ch) d,s7]) ?_).trans<|fin _ _];rw[U]
   exists 0,O,x1,es,z
theorem zIX(h:zj m ps):∀(T:L Int)(acc:L Ask)(s4 s5 s6 s7:Sl),FH ps T->acc.length+T.length<=1000 ->
  ∃z J O U,zJ (gN 4) qO (T.map D.int) [!EB m ps,!.int d,s2,.l<|acc.map zX,s4,s5,s6,s7]>.nx [!EB m ps,!.int d,s2,.l<|(T.foldl (λacc n=>if ask (pG ps n) d∈acc then acc else acc++[ask (pG ps n) d]) acc).map zX,z,J,O,U]
 | [],acc,s4,s5,s6,s7,_,_=>#[s4,s5,s6,s7,rfl]
 |n::T,acc,s4,s5,s6,s7,hi,hl=>by
  rw[sA]at hl;let(Y,t6,t7,e):=zOm h (hi n eA) (acc:=acc) 01;let(u4,u5,u6,u7,e'):=zIX h T (if ask _ d∈acc then acc else acc++[ask _ d]) _ Y t6 t7 (λx hx=>hi x<|cA _ hx) (by grind);show#[u4,u5,u6,u7,by rw[kA,yK rfl e,e',HD]]
def zRI(h:zj m ps)(d:Int){T:L Int}(hi:FH ps T)(hl:T.length<=1000):Nf [EB m ps,.int d,.lst<|T.map D.int]>(.lst<|(tO<|T.map λn=>ask (pG ps n) d).map zX):=by
 let(a,b,c,e,q):=zIX h T [] _ _ _ _ hi ‹hl›;rw[nC]at q;have z:tO (T.map λn=>ask (pG ps n) d)=T.foldl (λacc n=>if ask (pG ps n) d∈acc then acc else acc++[ask (pG ps n) d]) []:=by unfold tO;rw[UU]
 rw[z];change(Bh _).bind _=_;unfold Bh;rw[zI (ρ':=[.v _,.v _,.v _,.l [],.un,.un,.un,.un]) rfl,zI<|(sFor_eq rfl).trans q];rfl
end K04
namespace K04
open PySem L2 RD LG
theorem zKp:∀(l r:L Int),dG (l.map D.int) (r.map D.int)=decide (l=r)
 | [],[]=>rfl
 | [],_::_=>rfl
 |_::_,[]=>rfl
 |a::l,b::r=>by
  have e:GD (.int a) (.int b)=(a==b):=by rfl
  rw[kA,kA,dG,e,zKp l r,fF]
  simp_all
def zSN(A B:L Int):GD (zp A) (zp B)=decide (A=B):=by
 show zKp A B
def zOn(A:L Int):LF (zp A)<=20:=by
 have:∀l:L _,GH (l.map D.int)<=1:=by
  intro l
  induction l with
  |nil=>simp[GH]
  |cons a l ih=>simp[GH,LF];simpa using ih
 unfold zp;have:=this A;dsimp[LF];omega
def zVS(N:L Int)(Ks:L (L Int)):EK (zp N) (.lst<|Ks.map zp)>(.bl<|decide<|N∉Ks):=by
 unfold EK;rw[if_pos<|zOn N];dsimp[OI,Function.comp_def,zSN];by_cases e:N∈Ks
 .simp[e]
 .simp[e];intro y hy q
  simp_all
theorem zOo:∀{Ks:L (L Int)},N∈Ks->(Ks.map zp).findIdx? (λy=>GD y<|zp N)>fG Ks N
 | [],h=>by cases h
 |K::Ks,h=>by
  rw[kA,List.findIdx?_cons,zSN];unfold fG;by_cases e:K=N
  .simp[e]
  .have J:=(oA.mp h).resolve_left λz=>e z.symm
   have e':¬ N=K:=λz=>e z.symm
   dsimp[e,decide_false,JB,if_false,zOo J,VA]
def zRJ{Ks:L (L Int)}(h:N∈Ks):bX (.lst<|Ks.map zp) (zp N)>.int (fG Ks N:Int):=by
 unfold bX;rw[if_pos<|zOn N];change QF _ _=_;rw[zOo h];rfl
def eq_str(a b:Str):wB (.str a) (.str b)>(.bl<|decide<|a=b):=rfl
def m8(ps:L Pl)(T:L Int):=(∀n∈T,∃a b ch,pG ps n=.tell a b ch:Prop)
def zOq{ps:L Pl}(h:zj m ps)(hn:0<=n/\n<(ps.length:Int))(hp:pG ps n=.tell a b ch){acc:L Int}(hl:acc.length<=1000):
  qS [!EB m ps,s1,s2,s3,s4,s5,!.int n,s7,s8,!.str w,.l<|acc.map D.int]>.nx [!EB m ps,s1,s2,s3,s4,s5,!.int n,s7,s8,!.str w,.l<|(acc++sel w ch).map D.int]:=by
 let(e1,z):=MW hn.1 hn.2;have ok:=h.ok _<|xA e1;rw[hp]at z ok;have J:KA (.tup _) (.int n)>_:=z;have x3:KA (fC<|.tell a b ch) (.int 3)>(.tup<|ch.map ZD):=by dsimp[fC,KA,k9]
 have l1:ch.length<=1000000:=by have:=ok.l1;omega
 have few:=ok.l1
 have cs:zF (gN 11) qQ qR (ch.map ZD) [!EB m ps,s1,s2,s3,s4,s5,!.int n,s7,s8,!.str w,.l<|acc.map D.int,.un]>(sel w ch).map D.int:=by
  have:=zS (g:=gN 11) (p:=qQ) (f:=qR) (emb:=ZD) (ρ:=[!EB m ps,s1,s2,s3,s4,s5,!.int n,s7,s8,!.str w,.l<|acc.map D.int,.un]) (λq=>decide<|q.1=w) (λq=>D.int q.2) ch λq _=>#[_,rfl,?_,λ_=>?_]
  .rw[this,sel,UA];rfl
  .have:=eq_str q.1 w
   exists 0,qQ,ZD,FJ,this,KA
  .exists 0,qR,ZD,bR,KA,wB
 have U:=Ra w ch;have O:acc.length+(sel w ch).length<=1000000:=01
 exists qS,cP,LX,J,x3,l1,cs,O,uA,wB,GD,dG,gN,gT,FE,MF,zQ,zJ,NF
def zVT(w:Str)(xs ys:L (Str×Int)):sel w (xs++ys)=sel w xs++sel w ys:=by unfold sel;simp_all
theorem zIY(h:zj m ps):∀(T:L Int)(acc:L Int)(s6:Sl),FH ps T->m8 ps T->acc.length+3*T.length<=1000 ->
  ∃z,zJ (gN 6) qS (T.map D.int) [!EB m ps,s1,s2,s3,s4,s5,s6,s7,s8,!.str w,.l<|acc.map D.int]>.nx [!EB m ps,s1,s2,s3,s4,s5,z,s7,s8,!.str w,.l<|(acc++sel w ((T.map<|pG ps).flatMap cG)).map D.int]
 | [],acc,s6,_,_,_=>#[s6,by simp[zJ,sel]]
 |n::T,acc,s6,hi,ht,hl=>by
  rw[sA]at hl;let(a,b,ch,hp):=ht n eA;have hn:=hi n eA;have e:=zOq h hn hp (s1:=s1) (s2:=s2) (s3:=s3) (s4:=s4) (s5:=s5) (s7:=s7) (s8:=s8) (w:=w) (acc:=acc) 01;let(e1,_):=MW hn.1 hn.2;have ok:=h.ok _<|xA e1;rw[hp]at ok;have few:=ok.l1;have O:=Ra w ch;let(J,e'):=zIY h T (acc++sel w ch) _ (λx hx=>hi x<|cA _ hx) (λx hx=>ht x<|cA _ hx) (by grind);refine#[J,?_];rw[kA,yK rfl e,e',kA,OB,zVT,hp,dB];rfl
def zLm(h:zj m ps){T:L Int}(hi:FH ps T)(ht:m8 ps T)(hl:T.length<=100){Ks:L (L Int)}{prs:L (Str×Int)}(ha:yt [EB m ps,.int d,.lst<|(sel w<|(T.map<|pG ps).flatMap cG).map D.int]>zp N)(hk:Ks.length<16000000)(hp:prs.length<16000000):
  ∃Y,qU [!EB m ps,!.int d,s2,.o c<|.p<|.l<|Ks.map zp,!.lst (T.map D.int),s5,s6,s7,.l<|prs.map ZD,!.str w,s10] =
   some (.nx [!EB m ps,!.int d,s2,.o c<|.p<|.l<|(vH Ks N).map zp,!.lst (T.map D.int),s5,Y,s7,.l<|(prs++[(w,(fG (vH Ks N) N:Int))]).map ZD,!.str w,!zp N]):=by
 let(z,e):=zIY h (s1:=!.int d) (s2:=s2) (s5:=s5) (s7:=s7) (w:=w) T [] s6 hi ht (by simp;omega);rw[nC,WB]at e;refine#[z,?_];unfold qU;rw[zI (ρ':=[!EB m ps,!.int d,s2,.o c _,!.lst (T.map D.int),s5,s6,s7,.l<|prs.map ZD,!.str w,.l []]) rfl,zI<|(sFor_eq (ds:=T.map D.int) rfl).trans e];rw[zI (ρ':=[!EB m ps,!.int d,s2,.o c _,!.lst (T.map D.int),s5,z,s7,.l<|prs.map ZD,!.str w,!zp N])<|(zx ha).trans rfl]
 have s1:(DE (bB<|b2 (gV 10) (bO 3) EK) (vY 3<|gV 10)<|λρ=>some<|Out.nx ρ) [!EB m ps,!.int d,s2,.o c<|.p<|.l<|Ks.map zp,!.lst (T.map D.int),s5,z,s7,.l<|prs.map ZD,!.str w,!zp N] =
   some (.nx [!EB m ps,!.int d,s2,.o c<|.p<|.l<|(vH Ks N).map zp,!.lst (T.map D.int),s5,z,s7,.l<|prs.map ZD,!.str w,!zp N]):=by
  have J:=zVS N Ks;by_cases q:N∈Ks
  .rw[decide_eq_false<|by simpa using q]at J;have O:vH Ks N=Ks:=by simp[vH,q]
   rw[O]
   exists 0,bO,vY,J,KA,wB
  .rw[decide_eq_true q]at J;have O:vH Ks N=Ks++[N]:=by simp[vH,q]
   rw[O];have ZT:=‹hk›
   exists 0,bO,vY,J,ZT,hk,uA,KA,wB
 rw[zI s1];have ix:=zRJ<|Cz Ks N;have U:b2 (bO 3) (gV 10) bX [!EB m ps,!.int d,s2,.o c<|.p<|.l<|(vH Ks N).map zp,!.lst (T.map D.int),s5,z,s7,.l<|prs.map ZD,!.str w,!zp N]>_:=ix;generalize b2 (bO 3) (gV 10) bX=g at U|-
 exists 0,U,hp,uA,zSG,KA,wB
end K04
namespace K04
open PySem L2 RD LG
def zYL{F G:AB}(h:F ρ>.rm d ρ'):sq F G ρ>.rm d ρ':=by dsimp[sq,h,dA]
theorem jg{m:Int}{ps:L Pl}{d:Int}(h:PS m ps d){K:L Int}(hK:nO ps K)(NZ:DM ps d K=true){c:Op Addr}{T:L Int}(z:T=JH ps d K)(ht:m8 ps T):
  ∀(ws:L Str)(Ks:L (L Int))(prs:L (Str×Int))(s6 s9 s10:Sl),(∀w∈ws,w∈IH (BH ps d K))->Ks.Nodup->(∀K∈Ks,K∈PQ ps d)->prs.length+ws.length<16000000 ->
   ∃r Y fW U,Ks++r=ws.foldl (λKs w=>vH Ks<|LQ ps d K w) Ks/\(∀w∈ws,LQ ps d K w∈Ks++r) /\
    zJ (gN 9) qU (ws.map D.str) [!EB m ps,!.int d,!zp K,.o c<|.p<|.l<|Ks.map zp,!.lst (T.map D.int),s5,s6,s7,.l<|prs.map ZD,s9,s10] =
     some (.nx [!EB m ps,!.int d,!zp K,.o c<|.p<|.l<|(Ks++r).map zp,!.lst (T.map D.int),s5,Y,s7,.l<|(prs++ws.map λw=>(w,(fG (Ks++r) (LQ ps d K w):Int))).map ZD,fW,U])
 | [],Ks,prs,s6,s9,s10,_,hn,hs,_=>#[[],s6,s9,s10,WA _,by simp,by simp[zJ]]
 |w::ws,Ks,prs,s6,s9,s10,hw,hn,hs,hl=>by
  have ZV:=hw w eA;let(a1,inn,len):=zOG h.dn h.few #[h.d0,h.d1] hK NZ w ZV;have hq:(T.map<|pG ps).flatMap cG=BH ps d K:=by unfold BH;rw[C6 hK.inn,z]
  have a2:=Py h.dn d inn 01 (x:=.lst<|(sel w<|(T.map<|pG ps).flatMap cG).map D.int) (.inl<|by rw[hq]);rw[sA]at hl;have kl:=JA (Cw hn hs)<|Pp h.few d;have hi:FH ps T:=by rw[z];show Sy hK.inn
  have lT:T.length<=100:=by
   have:T.length<=K.length:=by rw[z];show AD ..
   have:=hK.len;omega
  let(r1,Hd):=zKb Ks _;let(u6,st):=zLm h.dn (c:=c) (s5:=s5) (s6:=s6) (s7:=s7) (s10:=s10) hi ht lT (w:=w) (Ks:=Ks) (prs:=prs) (N:=LQ ps d K w) a2 01 01;have O0:=zOL (N:=LQ ps d K w) hn;have oR:=Cz Ks<|LQ ps d K w
  have BN:∀K'∈vH Ks (LQ ps d K w),K'∈PQ ps d:=λK' WI=>by
   unfold vH at WI;split at WI
   .show hs K' WI
   .rcases pA.mp WI with WI | WI
    .show hs K' WI
    .simp at WI;subst WI;show a1
  let(r,Y,fW,U,i0,i3,i4):=jg h hK NZ (c:=c) (s5:=s5) (s7:=s7) z ht ws _ (prs++[(w,(fG _ _:Int))]) u6 (!.str w) _ (λv hv=>hw v<|cA _ hv) O0 BN (by simp;omega);have ix:=Cy r oR;have J:vH Ks _++r=(w::ws).foldl _ Ks:=i0;rw[kA,yK rfl st,i4];rw[Hd]at J i3 ix oR ⊢;rw[dB]at J i3 ix ⊢;refine#[r1++r,Y,fW,U,J,λv hv=>?_,?_]
  .rcases oA.mp hv with rfl|hv
   .rw[<- dB];show HB _ oR
   .show i3 v hv
  .rw[<- ix,dB];rfl
theorem Pz:∀(l acc:L Ask),x∈l.foldl (λacc x=>if x∈acc then acc else acc++[x]) acc↔x∈acc\/x∈l
 | [],acc=>by simp
 |y::l,acc=>by
  rw[HD,Pz l];by_cases c:y∈acc
  .dsimp[c,if_true,oA];constructor
   .rintro(q|q)
    .show .inl q
    .show .inr<|.inr q
   .rintro(q|rfl|q)
    .show .inl q
    .show .inl c
    .show .inr q
  .dsimp[c,if_false,pA,oA,nE,or_false,or_assoc]
theorem zOr:∀(l acc:L Ask),acc.Nodup->(l.foldl (λacc x=>if x∈acc then acc else acc++[x]) acc).Nodup
 | [],acc,h=>h
 |y::l,acc,h=>by
  rw[HD];refine zOr l _ ?_;split
  .show h
  .rename_i c;show rB.mpr #[h,by simp,λa ha b hb=>by simp at hb;subst hb;showλz=>c<|z ▸ ha]
def zOs(hx:x∈l)(h:∀y∈l,y=x):tO l=[x]:=by
 have nd:(tO l).Nodup:=zOr l [] rL;have mm:∀y,y∈tO l↔y∈l:=λy=>by unfold tO;rw[Pz];simp
 match e:tO l with
 | []=>simp_all
 | [y]=>rw[h y<|(mm y).mp<|by simp_all]
 |y::z::r=>
  have h1:=h y ((mm y).mp (by rw[e];simp));have h2:=h z ((mm z).mp (by rw[e];simp));rw[e]at nd;simp[h1,h2]at nd
def zOt(hx:x∈l)(hy:y∈l)(n:x≠y):1<(tO l).length:=by
 have mm:∀y,y∈tO l↔y∈l:=λy=>by unfold tO;rw[Pz];simp
 match e:tO l with
 | []=>simp_all
 |[z]=>
  have h1:=(mm x).mpr hx;have h2:=(mm y).mpr hy;rw[e]at h1 h2;simp at h1 h2
  show absurd (h1.trans h2.symm) n
 |_::_::_=>simp
end K04
namespace K04
open PySem L2 RD LG
def zVU{g:D->XA->Op XA}{F:AB}(h:g d ρ>RE)(k:F RE>.rm r ρ'):zJ g F (d::ds) ρ>.rm r ρ':=by dsimp[zJ,h,k,dA]
def JL(ps:L Pl)(d n:Int):=((JH ps d<|mE ps d [n]).isEmpty:Bool)
def zKq{ps:L Pl}(h:zj m ps)(hn:0<=n/\n<(ps.length:Int)):JL ps d n=true↔turns ps d (mE ps d [n])=[]:=by
 have hi:FH ps [n]:=λx hx=>by simp at hx;subst hx;show hn
 let(a1,_):=CU h d hi (by simp);rw[C6 a1.inn,mP];unfold JL
 simp_all
def vain_step{ps:L Pl}(h:zj m ps)(hn:0<=n/\n<(ps.length:Int)):
  qP [!EB m ps,!.int d,s2,s3,s4,s5,!.int n,s7,s8,s9,s10]>(if JL ps d n then .rm .non [!EB m ps,!.int d,s2,s3,s4,s5,!.int n,s7,s8,s9,s10] else .nx [!EB m ps,!.int d,s2,s3,s4,s5,!.int n,s7,s8,s9,s10]):=by
 have hi:FH ps [n]:=λx hx=>by simp at hx;subst hx;show hn
 have a2:=Py h d hi (by simp) (x:=.tup [.int n])<|.inr rfl;let(a1,_):=CU h d hi (by simp);have a3:=zKn (m:=m) d a1.inn (by have:=a1.len;omega);have z:qh [EB m ps,.int d,zp _]>_:=a3;unfold qP JL
 cases e:JH ps d _ with
 |nil=>
  rw[e]at z
  exists 0,a2,z,List.isEmpty_nil,IR,KA,wB
 |cons x l=>
  rw[e]at z
  exists 0,a2,z,List.isEmpty_cons,kA,IR,KA,wB
theorem vd(h:zj m ps):∀(S:L Int)(s6:Sl),FH ps S ->
  ∃z,zJ (gN 6) qP (S.map D.int) [!EB m ps,!.int d,s2,s3,s4,s5,s6,s7,s8,s9,s10]>(if S.any (JL ps d) then .rm .non [!EB m ps,!.int d,s2,s3,s4,s5,z,s7,s8,s9,s10] else .nx [!EB m ps,!.int d,s2,s3,s4,s5,z,s7,s8,s9,s10])
 | [],s6,_=>#[s6,rfl]
 |n::S,s6,hi=>by
  have e:=vain_step h (d:=d) (hi n eA) (s2:=s2) (s3:=s3) (s4:=s4) (s5:=s5) (s7:=s7) (s8:=s8) (s9:=s9) (s10:=s10);rw[GE]
  cases v:JL ps d n with
  |true=>
   rw[v]at e
   show#[.v _,by rw[kA,zVU rfl e];rfl]
  |false=>
   rw[v]at e;let(u,e'):=vd h S _ λx hx=>hi x<|cA _ hx
   show#[u,by rw[kA,yK rfl e,e'];rfl]
def zOu{ps:L Pl}(h:zj m ps)(hn:0<=n/\n<(ps.length:Int)){ch:L (Str×Int)}(hp:pG ps n=.tell a b ch){acc:L Str}(hl:acc.length<=1000):
  ya [!EB m ps,s1,s2,s3,s4,s5,!.int n,.l<|acc.map D.str,s8,s9,s10]>.nx [!EB m ps,s1,s2,s3,s4,s5,!.int n,.l ((acc++ch.map (·.1)).map D.str),s8,s9,s10]:=by
 let(e1,J):=MW hn.1 hn.2;have ok:=h.ok _<|xA e1;rw[hp]at J ok;have O:KA (.tup _) (.int n)>_:=J;have x3:KA (fC<|.tell a b ch) (.int 3)>(.tup<|ch.map ZD):=rfl;have few:=ok.l1;have l1:ch.length<=1000000:=01
 have z:=Ou (f:=Mr) [!EB m ps,s1,s2,s3,s4,s5,!.int n,.l<|acc.map D.str,s8,s9,s10] ch 11 λq=>rfl
 simp at z;have U:acc.length+ch.length<=1000000:=01
 have mm:(ch.map (·.1)).map D.str=ch.map λq=>D.str q.1:=by rw[UA];rfl
 exists ya,cP,LX,O,x3,l1,z,U,uA,mm,wB,GD,dG,gN,gT,FE,MF,zQ,zJ,NF
theorem zIZ(h:zj m ps):∀(T:L Int)(acc:L Str)(s6:Sl),FH ps T->m8 ps T->acc.length+3*T.length<=1000 ->
  ∃z,zJ (gN 6) ya (T.map D.int) [!EB m ps,s1,s2,s3,s4,s5,s6,.l<|acc.map D.str,s8,s9,s10]>.nx [!EB m ps,s1,s2,s3,s4,s5,z,.l ((acc++((T.map<|pG ps).flatMap cG).map (·.1)).map D.str),s8,s9,s10]
 | [],acc,s6,_,_,_=>#[s6,by simp[zJ]]
 |n::T,acc,s6,hi,ht,hl=>by
  rw[sA]at hl;let(a,b,ch,hp):=ht n eA;have hn:=hi n eA;have e:=zOu h hn hp (s1:=s1) (s2:=s2) (s3:=s3) (s4:=s4) (s5:=s5) (s8:=s8) (s9:=s9) (s10:=s10) (acc:=acc) 01;let(e1,_):=MW hn.1 hn.2;have ok:=h.ok _<|xA e1;rw[hp]at ok;have few:=ok.l1;let(J,e'):=zIZ h T (acc++ch.map _) _ (λx hx=>hi x<|cA _ hx) (λx hx=>ht x<|cA _ hx) (by simp;omega);refine#[J,?_];rw[kA,yK rfl e,e',kA,hp,dB,<- uA];rfl
def zVV(qs:L (Str×Int)):IH qs=GM (qs.map (·.1)):=by
 unfold IH GM;rw[UU];rfl
def strs_map(l:L Str):RD.LP (l.map D.str)>l:=by
 induction l with
 |nil=>rfl
 |cons x xs ih=>simp[RD.LP,ih]
end K04
namespace K04
open PySem L2 RD LG
abbrev vI(m:Int)(ps:L Pl)(d:Int)(K:L Int)(a:Addr)(Ks:L (L Int))(s4 s5 s6 s7 s8 s9 s10:Sl):XA:=[!EB m ps,!.int d,!zp K,.o (some a)<|.p<|.l<|Ks.map zp,s4,s5,s6,s7,s8,s9,s10]
noncomputable def outML(n:Nat)(a:Addr):Out->Op (D×Ob)
 |.rm d ρ=>match ρ[n]? with
  |some (.o c y)=>if c>a then some (d,y) else none
  |_=>none
 |_=>none
def p7{Ks:L (L Int)}:outML 3 a (.rm r<|vI m ps d K a Ks s4 s5 s6 s7 s8 s9 s10)>(r,.p<|.l<|Ks.map zp):=by
 simp[outML]
def sFor_eq{f:FD}{g:D->XA->Op XA}{F:AB}(h:f ρ>ds)(k:zJ g F ds ρ=o):zN f g F ρ=o:=by unfold zN;simp_all
section
variable {m:Int}{ps:L Pl}{d:Int}{K:L Int}{a:Addr}{Ks:L (L Int)}
abbrev mS(m:Int)(ps:L Pl)(d:Int)(K:L Int)(Ks:L (L Int))(r:D)(lM:L (L Int)):Prop:=Bi [!EB m ps,!.int d,!zp K,.t<|.p<|.l<|Ks.map zp]>(r,[!EB m ps,!.int d,!zp K,.t<|.p<|.l<|lM.map zp])
def Es{lM:L (L Int)}(h:∀a,(yv<|vI m ps d K a Ks .un .un .un .un .un .un .un).bind (outML 3 a)>(r,.p<|.l<|lM.map zp)):mS m ps d K Ks r lM:=zNm λas=>by
 let(o,e,e'):=aA.mp<|h<|as 3;change(yv<|vI m ps d K (as 3) Ks .un .un .un .un .un .un .un).bind _=_;rw[e];unfold outML at e';split at e'
 .split at e'
  .split at e'
   .cases e';rename_i ρ _ _ e1 z;subst e1;simp[NW,HU,mI,z]
   .cases e'
  .cases e'
 .cases e'
def Ul(h:zj m ps)(hK:nO ps K):yv (vI m ps d K a Ks .un .un .un .un .un .un .un)=yk (vI m ps d K a Ks (!.lst ((JH ps d K).map D.int)) (!.lst ((tO<|(JH ps d K).map λn=>ask (pG ps n) d).map zX)) .un .un .un .un .un):=by
 have O:=hK.len;have e1:=zKn (m:=m) d hK.inn 01;have J:(JH ps d K).length<=1000:=JA (AD ..) 01;have z:=zRI h d (Sy hK.inn) J;unfold yv Mf;rw[zI<|(zx e1).trans rfl,zI (ρ':=vI m ps d K a Ks _ _ _ _ _ _ _)<|(zx z).trans rfl]
def zRK(z:JH ps d K=[]):yk (vI m ps d K a Ks (!.lst ((JH ps d K).map D.int)) s5 .un .un .un .un .un)>(.rm (QD .rests)<|vI m ps d K a Ks (!.lst ((JH ps d K).map D.int)) s5 .un .un .un .un .un):=by
 rw[z];rfl
def zYM(z:JH ps d K≠[]):yk (vI m ps d K a Ks (!.lst ((JH ps d K).map D.int)) s5 .un .un .un .un .un)=yj (vI m ps d K a Ks (!.lst ((JH ps d K).map D.int)) s5 .un .un .un .un .un):=by
 cases e:JH ps d K with
 |nil=>show absurd e z
 |cons x l=>
  rfl
def zYN{ks:L Ask}(hk:1<ks.length):yj (vI m ps d K a Ks s4 (!.lst (ks.map zX)) .un .un .un .un .un)>(.rm .non<|vI m ps d K a Ks s4 (!.lst (ks.map zX)) .un .un .un .un .un):=by
 refine zYL ?_
 exists 0,IR,lA,KA,wB
 rw[if_pos<|decide_eq_true<|01]
def X4:yj (vI m ps d K a Ks s4 (!.lst ([x].map zX)) .un .un .un .un .un)=qt (vI m ps d K a Ks s4 (!.lst ([x].map zX)) .un .un .un .un .un):=rfl
noncomputable def pV:Ask->L (Str×Int)->LG.St
 |.fin,_=>.fin
 |.tells b _,prs=>.act true b prs
 |.hears a,prs=>.act false a prs
def zRL(e:turns ps d K=t::ts):RJ ps d Ks K=pV (ask t d) (oO ps d Ks K):=by
 unfold RJ;rw[e];dsimp only;cases ask t d<;>rfl
def S4(hx:x≠.fin){prs:L (Str×Int)}:qr (vI m ps d K a Ks s4 (!.lst [zX x]) s6 s7 (.l<|prs.map ZD) s9 s10)>(.rm (QD<|pV x prs)<|vI m ps d K a Ks s4 (!.lst [zX x]) s6 s7 (.l<|prs.map ZD) s9 s10):=by
 unfold qr
 cases x with
 |fin=>show absurd rfl hx
 |tells b ws=>rfl
 |hears b=>rfl
def U4(h:PS m ps d)(hK:nO ps K)(J:DM ps d K=true)(hn:Ks.Nodup)(hp:∀K∈Ks,K∈PQ ps d)(hx:x≠.fin)(hT:∀n∈JH ps d K,ask (pG ps n) d=x)(s6:Sl):
  (yh<|vI m ps d K a Ks (!.lst ((JH ps d K).map D.int)) (!.lst [zX x]) s6 .un .un .un .un).bind (outML 3 a)>(QD<|pV x<|oO ps d (kO ps d Ks K) K,.p<|.l<|(kO ps d Ks K).map zp):=by
 have Y:m8 ps (JH ps d K):=λn hn=>by
  have:=hT n hn
  cases e:pG ps n with
  |fin=>rw[e]at this;show absurd this.symm hx
  |tell a b ch=>show#[a,b,ch,rfl]
 have lK:=hK.len;have lT:(JH ps d K).length<=K.length:=AD ..;have hq:((JH ps d K).map<|pG ps).flatMap cG=BH ps d K:=by unfold BH;rw[C6 hK.inn]
 have few:=Sr h.few hK J;unfold yh;rw[zI (ρ':=vI m ps d K a Ks _ _ s6 (.l<|([]:L Str).map D.str) .un .un .un) rfl];let(z,O):=zIZ h.dn (s8:=.un) (s9:=.un) (s10:=.un) (JH ps d K) [] s6 (Sy hK.inn) Y (by simp;omega);rw[hq,WB]at O;have e3:zN (iL λρ=>NQ ρ 4) (gN 6) ya (vI m ps d K a Ks (!.lst _) _ s6 _ .un .un .un)=_:=O;rw[zI e3];unfold Me;rw[zI (ρ':=vI m ps d K a Ks _ _ z _ (.l<|[].map ZD) .un .un) rfl]
 let(r,v6,v9,v10,f1,f2,f3):=jg h hK J (c:=some a) rfl Y (yL ps d K) Ks [] z .un .un (λw hw=>Mn.mp hw) hn hp (by
  have:(yL ps d K).length=(IH<|BH ps d K).length:=M6;have:=Dk<|BH ps d K;simp;omega)
 have e4:iL (λρ=>((tP (gR 7) cX) ρ).map D.lst) (vI m ps d K a Ks (!.lst ((JH ps d K).map D.int)) (!.lst [zX x]) z (.l (((BH ps d K).map (·.1)).map D.str)) (.l<|[].map ZD) .un .un)>(yL ps d K).map D.str:=by
  have:cX (.lst (((BH ps d K).map (·.1)).map D.str))>(yL ps d K).map D.str:=by
   unfold cX;dsimp only;rw[if_pos (by simp;omega),strs_map,VA,<- zVV];rfl
  change((cX<|.lst _).map D.lst).bind j9=_;rw[this];rfl
 have e5:=sFor_eq e4 f3;rw[zI e5];have ea:Ks++r=kO ps d Ks K:=f1;rw[S4 hx,dA,p7,ea];rfl
def V4:yi (vI m ps d K a Ks s4 (!.lst [zX x]) s6 .un .un .un .un)=if x=.fin then some (.rm (QD .fin)<|vI m ps d K a Ks s4 (!.lst [zX x]) s6 .un .un .un .un) else yh (vI m ps d K a Ks s4 (!.lst [zX x]) s6 .un .un .un .un):=by
 have e:=zN9 x .fin;by_cases hx:x=.fin
 .subst hx;rfl
 .rw[if_neg hx];refine zI ?_;rw[decide_eq_false hx]at e
  replace e:wB _ (.tup _)>_:=e
  exists 0,IR,FJ,e,KA
def W4(h:zj m ps)(hK:nO ps K):∃z,qt (vI m ps d K a Ks s4 s5 s6 .un .un .un .un)=if K.any (JL ps d) then some (.rm .non<|vI m ps d K a Ks s4 s5 z .un .un .un .un) else yi (vI m ps d K a Ks s4 s5 z .un .un .un .un):=by
 let(u,e):=vd h K s6 hK.inn;refine#[u,?_];have e':=e
 cases v:K.any _ with
 |true=>rw[v]at e';show zYL e'
 |false=>rw[v]at e';show zI e'
def zVX(h:ask p d=.fin):p=.fin:=by
 cases p with
 |fin=>rfl
 |tell a b ch=>unfold LG.ask at h;dsimp only at h;grind
def zRM(h:PS m ps d)(hK:nO ps K)(hn:Ks.Nodup)(hp:∀K∈Ks,K∈PQ ps d):
  (CT ps d K->mS m ps d K Ks .non Ks) /\
  (¬ CT ps d K->mS m ps d K Ks (QD<|RJ ps d (kO ps d Ks K) K) (kO ps d Ks K)):=by
 have tt:=C6 (d:=d) hK.inn
 cases e:JH ps d K with
 |nil=>
  have O:turns ps d K=[]:=by rw[tt,e];rfl
  have a0:kO ps d Ks K=Ks:=by unfold kO LG.yL BH;rw[O];rfl
  have s0:RJ ps d (kO ps d Ks K) K=.rests:=by unfold RJ;rw[O]
  refine#[λb=>?_,λ_=>?_]
  .rcases b with b|b
   .unfold DM at b;rw[O]at b;cases b
   .show absurd O b.1
  .refine Es λa=>?_
   rw[Ul h.dn hK,zRK e,dA,p7,s0,a0]
 |cons n T=>
  have t1:turns ps d K=pG ps n::T.map (pG ps):=by rw[tt,e];rfl
  have e0:JH ps d K≠[]:=by rw[e];simp
  have mt:∀{u},u∈turns ps d K->∃k∈JH ps d K,pG ps k=u:=λ{u} J=>by rw[tt]at J;simpa using J
  by_cases al:DM ps d K=true
  .have all:=λk hk=>by
    unfold DM at al;rw[t1]at al;have:=GB.mp al (pG ps k) (by rw[<- t1,tt];show YB hk);show of_decide_eq_true this
   have k1:tO ((JH ps d K).map λn=>ask (pG ps n) d)=[ask (pG ps n) d]:=zOs (by rw[e];show eA) λy hy=>by
    let(k,hk,rfl):=QA.mp hy;show all k hk
   have bad:CT ps d K↔K.any (JL ps d)=true:=by
    rw[jF];constructor
    .rintro(b|⟨_,k,hk,z⟩)
     .rw[al]at b;cases b
     .show#[k,hk,(zKq h.dn<|hK.inn k hk).mpr z]
    .rintro⟨k,hk,z⟩;show .inr #[by rw[t1];simp,k,hk,(zKq h.dn<|hK.inn k hk).mp z]
   have run:∀a,∃s6,yv _=if K.any (JL ps d) then some _ else yi _:=λa=>by
    let(u,e4):=W4 h.dn hK (d:=d) (a:=a) (Ks:=Ks) (s5:=!.lst [zX<|ask (pG ps n) d]) (s6:=.un);refine#[u,?_];rw[Ul h.dn hK,zYM e0,k1,X4];show e4
   refine#[λb=>Es λa=>?_,λb=>Es λa=>?_]
   .let(u,r):=run a;rw[r,if_pos<|bad.mp b,dA,p7]
   .let(u,r):=run a;rw[r,if_neg λz=>b<|bad.mpr z,V4,zRL t1];by_cases hx:ask (pG ps n) d=.fin
    .have a0:kO ps d Ks K=Ks:=by
      have:BH ps d K=[]:=LM.mpr λu J=>by
       let(k,hk,rfl):=mt J;rw[zVX<|(all k hk).trans hx];rfl
      unfold kO LG.yL;rw[this];rfl
     rw[if_pos hx,dA,p7,hx,a0];rfl
    .rw[if_neg hx,U4 h hK al hn hp hx all]
  .have Y:DM ps d K=false:=‹al›
   refine#[λ_=>Es λa=>?_,λb=>absurd (.inl Y) b]
   have:∃k∈JH ps d K,ask (pG ps k) d≠ask (pG ps n) d:=Classical.byContradiction λz=>al (by
    unfold DM;rw[t1];refine GB.mpr λu J=>decide_eq_true (Classical.byContradiction λy=>z ?_)
    rw[<- t1]at J;let(k,hk,rfl):=mt J;show#[k,hk,y])
   let(k,hk,ne):=this;have k2:=zOt (l:=(JH ps d K).map λn=>ask (pG ps n) d) (YB hk) (QA.mpr #[n,by rw[e];show eA,rfl]) ne;rw[Ul h.dn hK,zYM e0,zYN k2,dA,p7]
end
end K04
namespace K04
open PySem L2 RD LG
def zOv{c:QE}{F:AB}(h:c ρ>true)(e:F ρ>.rt d):RM c F (k+1) ρ>.rt d:=by
 dsimp[RM,h,dA,if_true,e]
section
variable {m:Int}{ps:L Pl}{d:Int}
abbrev fp(m:Int)(ps:L Pl)(d:Int)(Ks:L (L Int))(DC:L LG.St)(s4:Sl):XA:=[!EB m ps,!.int d,.l<|Ks.map zp,.l<|DC.map QD,s4]
def zSO{Ks lM:L (L Int)}{DC:L LG.St}(hl:DC.length<Ks.length)(e:mS m ps d Ks[DC.length] Ks r lM):
  Fm 4 [none,none,none,some 2] (cV (gV 0)<|cV (gV 1)<|cV (b2 (gR 2) (b1 (gR 3) pH) KA)<|cT DO 2 zE) Bi (fp m ps d Ks DC s4)>(.nx<|fp m ps d lM DC<|.v r):=by
 have z:KA (.lst<|Ks.map zp) (.int DC.length)>zp Ks[DC.length]:=by
  simp[KA,EF,WG,hl]
 unfold Fm;rw[show cV (gV 0) (cV (gV 1)<|cV (b2 (gR 2) (b1 (gR 3) pH) KA)<|cT DO 2 zE) (fp m ps d Ks DC s4)>[!EB m ps,!.int d,!zp Ks[DC.length],.t<|.p<|.l<|Ks.map zp] from ?_,dA,e]
 .rfl
 exists 0,cV,cT,DO,IT,z,lA,wB
def zYO{Ks:L (L Int)}{DC:L LG.St}(hl:DC.length<Ks.length)(e:mS m ps d Ks[DC.length] Ks .non Ks):z8 (fp m ps d Ks DC s4)>.rt .non:=by
 unfold z8;rw[zI<|zSO hl e];rfl
def zVY{Ks lM:L (L Int)}{DC:L LG.St}(hl:DC.length<Ks.length)(h2:DC.length<16000000)(e:mS m ps d Ks[DC.length] Ks (QD x) lM):z8 (fp m ps d Ks DC s4)>(.nx<|fp m ps d lM (DC++[x])<|!QD x):=by
 unfold z8;rw[zI<|zSO hl e,zI (ρ':=fp m ps d lM DC<|!QD x)]
 .exists 0,lA,h2,fp,uA,kA,nC,wB
 .cases x<;>rfl
def Jv{Ks:L (L Int)}{DC:L LG.St}:yz (fp m ps d Ks DC s4)>(decide<|DC.length<Ks.length):=by
 exists 0,yz,lA,KA,wB
 simp_all
theorem zKs(h:PS m ps d)(vs:L Int)(hv:∀n:Int,0<=n->n<(ps.length:Int)->(n∈vs↔turns ps d (mE ps d [n])=[])):∀(n:Nat)(Ks:L (L Int))(DC:L LG.St)(s4:Sl),XS ps d vs Ks DC->8388609<n+DC.length ->
  (GK ps d n DC.length Ks=none->RM yz z8 n (fp m ps d Ks DC s4)>.rt .non) /\
  ∀lM,GK ps d n DC.length Ks>lM->∃Y,RM yz z8 n (fp m ps d Ks DC s4)>(.nx<|fp m ps d lM (lM.map<|RJ ps d lM) Y)
 |0,Ks,DC,s4,I,hn=>by have:=I.len h.few;have:=I.le;omega
 |n+1,Ks,DC,s4,I,hn=>by
  have tp:=Jv (m:=m) (ps:=ps) (d:=d) (Ks:=Ks) (DC:=DC) (s4:=s4);by_cases hl:DC.length<Ks.length
  .rw[decide_eq_true hl]at tp;have pn:GK ps d (n+1) DC.length Ks=open Classical in if CT ps d Ks[DC.length] then none else GK ps d n (DC.length+1) (kO ps d Ks Ks[DC.length]):=by rw[GK,xB hl]
   have hm:=MC hl;let(q1,q2):=zRM h (I.st _ hm) I.nd I.pl;have kl:=I.len h.few;rcases xq h I hl hv .un .un .un .un .un .un .un with⟨b,_⟩|⟨b,r,st,a6,a7,a8,a9,Vg,Vh,Vi,U,O,_⟩
   .rw[pn,if_pos b];show#[λ_=>zOv tp<|zYO hl<|q1 b,λ_ z=>(by cases z)]
   .rw[pn,if_neg b,<- U]
    have J:st=RJ ps d (Ks++r) Ks[DC.length]:=by
     have:=congrArg (·[DC.length]?) O.eq;simp[List.getElem?_append,hl]at this;show this
    have g:=q2 b;rw[<- U,<- J]at g;have go:=zVY (s4:=s4) hl 01 g;let(k1,k2):=zKs h vs hv n _ _ _ O (by simp;omega);rw[OA]at k1 k2;rw[p6 tp<|.inl go];show#[k1,k2]
  .rw[decide_eq_false hl]at tp;have pn:GK ps d (n+1) DC.length Ks>Ks:=by rw[GK,RN<|01]
   rw[pn];refine#[λz=>(by cases z),λlM z=>?_];cases z;have es:=I.eq;rw[bN<|01]at es;refine#[s4,?_];rw[Nq tp,<- es]
def zRN(h:PS m ps d):E6 [EB m ps,.int d]>(match GK ps d 20000000 0 [mE ps d [0]] with|none=>.non|some Ks=>Fp ps d Ks):=by
 let(vs,O,U):=zSE h.dn d;have z:FH ps [0]:=λn hn=>by simp at hn;subst hn;have:=h.dn.n0;omega
 let(s0,_):=CU h.dn d z (by simp);have a0:=Py h.dn d z (by simp) (x:=.tup [.int 0])<|.inr rfl;have ze:mE ps d _∈PQ ps d:=eA;have J:XS ps d vs [mE ps d _] []:=#[by simp,λK hK=>by simp at hK;subst hK;show ze,λK hK=>by simp at hK;subst hK;show s0,by simp,by simp,by simp]
 let(k1,k2):=zKs h vs O 20000000 _ [] _ J 02
 have e1:yJ 2 (zA (λρ=>((zA (gV 0)<|zA (gV 1)<|zA (λρ=>((zA (zC 0) zE) ρ).map D.tup) zE) ρ).bind yt) zE) [!EB m ps,!.int d,.un,.un,.un]>.nx [!EB m ps,!.int d,.l [zp<|mE ps d [0]],.un,.un]:=by
  exists 0,a0,wB
 refine Sk ?_;change By [.v _,.v _,.un,.un,.un]=_;unfold By;rw[zI e1,zI (ρ':=fp m ps d [mE ps d _] [] _) rfl]
 cases e:GK ps d _ 0 _ with
 |none=>
  have:=k1 e
  rw[Fo (F:=HW _ _ _) this]
 |some Ks=>
  let(s4,k3):=k2 Ks e;rw[zI (F:=HW _ _ _) k3];rfl
end
end K04
namespace K04
open PySem L2 RD LG
noncomputable abbrev zKt:L Str:=["self"]
def Qa(C:Addr):=((qc<|b1 (λρ=>(CI C 0 "at" ρ).bind ZN) OH):AB)
def Da(C:Addr)(x:Ob)(ds:L D):=(IM λa=>dP zKt (Qa C) a x ds:Op D)
def i6(C:Addr):=((DE (bB<|b2 (b2 (yr C "state_of" 0 (zA (gV 1) zE)<|qg C) (zC 0) KA) ((zA (λ_=>some<|D.str "end")<|zA (λ_=>some<|D.str "rests") zE)<&>D.tup) EK) (qc<|λ_=>some<|D.bl false)<|λρ=>some<|Out.nx ρ):AB)
def j6(C:Addr):=((b2 (b1 (gR 2) pH) (zC 0) wB):TB)
noncomputable abbrev zIa:L Str:=["self","dancer"]
def U6(C:Addr):=((sq (zN (WH<|zA (b1 (λρ=>(CI C 0 "parts" ρ).bind ZN) pH) zE) (gN 1)<|i6 C)<|qc<|b1 ((C7 C 1 0 "rows" (gN 2)<|j6 C)<&>D.lst) LU):AB)
def On(C:Addr)(x:Ob)(ds:L D):=(IM λa=>dP zIa (U6 C) a x ds:Op D)
noncomputable abbrev zSP:L Str:=["self","move","pair"]
def Et(C:Addr):=((xG (KR (ZO<|lL<|yr C "can_be_done" 0 (zA (gV 1) zE)<|yE C) (vR 1<|zA (b1 (gV 1)<|u9 " can't be done") zE)<|oX λρ=>some<|Out.nx ρ)<|oX<|sq (zw 2<|(zA (b2 (gR 1) (zC 1) KA)<|zA (b2 (gR 1) (zC 2) KA) zE)<&>D.tup)<|sq (DE (bB<|b2 (b2 (gR 1) (zC 0) KA) (λ_=>some<|D.str "tell") wB) (sq (rY C 0 "rows" (gV 2)<|b2 (gR 1) (zC 3) KA)<|WO C "go_on" 0 (zA (b2 (gR 1) (zC 1) KA)<|zA (b2 (gR 1) (zC 3) KA) zE)<|HS C)<|sq (pY C 0 "rows"<|gV 2)<|WO C "go_on" 0 (zA (b2 (gR 1) (zC 2) KA)<|zA (b2 (gR 1) (zC 3) KA) zE)<|HS C)<|X7 C 0 "past"<|gV 1):XA->Op TF)
def Eu(C:Addr)(x:Ob)(ds:L D):=(IM λa=>zXj zSP (Et C) a x ds:Op Nat)
def An:=(((zA (λ_=>some<|D.str "tell")<|zA (gV 5)<|zA (b2 (gR 6) (zC 1) KA)<|zA (b2 (gR 8) (zC 0) KA) zE)<&>D.tup):TB)
def qW:=((bB<|b2 (b2 (gR 8) (zC 0) KA) ((GJ (gR 7) (λ_=>some none) (oI<|zC 1) Kz)<&>D.lst) JI):QE)
def Ao:=(((zA (λ_=>some<|D.str "hear")<|zA (b2 (gR 6) (zC 1) KA)<|zA (gV 5)<|zA (b2 (gR 8) (zC 0) KA) zE)<&>D.tup):TB)
def qX:=((sq (zw 6<|b2 (b2 (gR 1) (gR 5) KA) (b2 (gR 2) (gR 5) KA) KA)<|sq (DE (bB<|b2 (b2 (gR 6) (zC 0) KA) (λ_=>some<|D.str "tells") wB) (cP 4<|zB 1 (iT<|b2 (gR 6) (zC 2) KA) (gN 8) (λ_=>some true) An)<|λρ=>some<|Out.nx ρ)<|DE (bB<|b2 (b2 (gR 6) (zC 0) KA) (λ_=>some<|D.str "hears") wB) (sq (zw 7<|fX 3<|(zA (b2 (gR 6) (zC 1) KA)<|zA (gV 5) zE)<&>D.tup)<|cP 4<|zB 1 (iT<|b2 (gR 6) (zC 2) KA) (gN 8) qW Ao)<|λρ=>some<|Out.nx ρ):AB)
noncomputable abbrev jh:L Str:=["_law_many","_law_parts","_law_states","_law_rows","_law_found","_law_dancer","_law_state_here","_law_row"]
def Bj:=((sq (yJ 4 zE)<|sq (zN (WH<|zA (gV 0) zE) (gN 5) qX)<|sY 4):AB)
def yF(xs:L Sl):=(MU<|A8 jh Bj xs:Op (D ⊕ L D))
noncomputable abbrev Ze:L Str:=["_law_hall_here","_law_move","_law_told","e"]
def Ap(C:Addr):=((sq (zw 2<|λ_=>some<|D.bl false)<|sq (Ej C "do" 0 2 3 1 (zA (gV 1) zE)<|Eu C)<|qc<|gV 2):AB)
def Aq(C:Addr)(xs:L Sl):=(MU<|A8 Ze (Ap C) xs:Op (D ⊕ L D))
def Ar(C:Addr):=((DE (QS (bB<|b2 (b2 (gR 6) (zC 0) KA) (b2 (gR 6) (zC 1) KA) NF)<|bB<|b2 (yr C "row" 0 (zA (b2 (gR 6) (zC 0) KA)<|zA (b2 (gR 6) (zC 1) KA) zE)<|xY C) (b1 (fX 4<|gV 6) OH) NF) (qc<|λ_=>some<|D.bl false)<|λρ=>some<|Out.nx ρ):AB)
def As(C:Addr):=((b2 (b2 (b2 (b2 (gR 2) (gR 9) KA) (b2 (gR 3) (gR 9) KA) KA) (zC 0) KA) ((zA (λ_=>some<|D.str "end")<|zA (λ_=>some<|D.str "rests") zE)<&>D.tup) JI):TB)
def qY(C:Addr):=((lL<|fX 4<|gV 9):QE)
def Au(C:Addr):=((gV 9):TB)
def Mu(C:Addr):=((sq (zw 8<|yr C "is_over" 0 zE<|On C)<|qc<|iM (b1 (gR 8)<|o8 "bool")<|iM (b2 (gR 8) (gR 7) wB)<|b2 (yr C "moves" 0 zE<|m7 C) (b1 ((KS (qV (gV 1)<|qV (gV 2)<|qV (gV 3)<|qT 4 zE) yF)<&>D.lst) OH) wB):AB)
def Mw(C:Addr):=((sq (zw 7<|b1 ((zB 1 (WH<|zA (gV 1) zE) (gN 9) (λ_=>some true)<|As C)<&>D.lst) LU)<|sq (zw 7<|iM (gV 7)<|Fn<|(zB 1 (iZ 4) (gN 9) (qY C)<|Au C)<&>D.lst)<|Mu C):AB)
def Mx(C:Addr):=((sq (zN (iZ 4) (gN 6)<|Ar C)<|Mw C):AB)
noncomputable abbrev jj:L Str:=["_law_hall_here","_law_many","_law_parts","_law_states","_law_rows","_law_past","_law_pair","_law_over","_law_told"]
def Bk(C:Addr):=((sq (DE (sV (bB<|b2 (yr C "states" 0 zE<|Da C) (b1 (gR 3) OH) NF)<|bB<|b2 (yr C "done" 0 zE<|Eo C) (b1 (gR 5) OH) NF) (qc<|λ_=>some<|D.bl false)<|λρ=>some<|Out.nx ρ)<|Mx C):AB)
def qi(C:Addr)(xs:L Sl):=(MU<|A8 jj (Bk C) xs:Op (D ⊕ L D))
def z6:=((sq (vJ 5<|(zA (λ_=>some<|D.str "hear")<|zA (b2 (gR 6) (zC 1) KA)<|zA (gV 4)<|zA (gV 7) zE)<&>D.tup)<|sq (vJ 5<|(zA (λ_=>some<|D.str "hear")<|zA (b2 (b2 (b2 (gR 6) (zC 1) KA) (zC 1) yd) (gR 0) QJ)<|zA (gV 4)<|zA (gV 7) zE)<&>D.tup)<|sq (vJ 5<|(zA (λ_=>some<|D.str "tell")<|zA (gV 4)<|zA (b2 (b2 (b2 (gR 6) (zC 1) KA) (zC 1) yd) (gR 0) QJ)<|zA (gV 7) zE)<&>D.tup)<|vJ 5<|(zA (λ_=>some<|D.str "tell")<|zA (gV 4)<|zA (b2 (gR 6) (zC 1) KA)<|zA (b2 (GJ (gR 7) (λ_=>some none) (oI<|zC 2) aK) (λ_=>some<|D.str "z") yd) zE)<&>D.tup):AB)
noncomputable abbrev Yh:L Str:=["_law_many","_law_parts","_law_states","_law_cell_here","_law_dancer","_law_found","_law_state_here","_law_word_here","_law_after"]
def qZ:=((sq (zw 4<|b2 (gR 3) (gR 0) QJ)<|sq (yJ 5<|zA ((zA (λ_=>some<|D.str "hear")<|zA (gV 4)<|zA (b2 (b2 (gR 3) (zC 1) yd) (gR 0) QJ)<|zA (λ_=>some<|D.str "zz") zE)<&>D.tup)<|zA ((zA (λ_=>some<|D.str "tell")<|zA (gV 4)<|zA (b2 (b2 (gR 3) (zC 1) yd) (gR 0) QJ)<|zA (λ_=>some<|D.str "a") zE)<&>D.tup) zE)<|sq (zw 6<|b2 (b2 (gR 1) (gR 4) KA) (b2 (gR 2) (gR 4) KA) KA)<|sq (DE (bB<|b2 (b2 (gR 6) (zC 0) KA) ((zA (λ_=>some<|D.str "tells")<|zA (λ_=>some<|D.str "hears") zE)<&>D.tup) JI) (zN (iT<|b2 (gR 6) (zC 2) KA) (gT 2<|FE (gN 7)<|FE (gN 8) MF) z6)<|λρ=>some<|Out.nx ρ)<|sY 5):AB)
def yT(xs:L Sl):=(MU<|A8 Yh qZ xs:Op (D ⊕ L D))
noncomputable abbrev zKw:L Str:=["_law_move","_law_parts","_law_states","_law_rows","_law_dancer"]
def Y6:=((sq (zw 4<|b2 (gR 0) (zC 1) KA)<|sq (DE (bB<|b2 (b2 (gR 0) (zC 0) KA) (λ_=>some<|D.str "hear") wB) (sq (zw 4<|b2 (gR 0) (zC 2) KA)<|M7 3<|(zA (b2 (gR 0) (zC 1) KA)<|zA (b2 (gR 0) (zC 2) KA) zE)<&>D.tup)<|J7 3 ((zA (b2 (gR 0) (zC 1) KA)<|zA (b2 (gR 0) (zC 2) KA) zE)<&>D.tup)<|b2 (gR 0) (zC 3) KA)<|Fk 2 (gV 4)<|MT (b2 (b2 (b2 (gR 1) (gR 4) KA) (b2 (bO 2) (gR 4) KA) KA) (zC 2) KA)<|b2 (gR 0) (zC 3) KA):AB)
def Dc(xs:L Ag):=(HY zKw Y6 xs:Op (D×L Ag))
def Rg(C:Addr):=(((zA (gV 1)<|zA (gV 14) zE)>>=E6):TB)
def Rh(C:Addr):=((zC 0):TB)
def v7(C:Addr):=((Ei 6<|(zA (gV 7)<|zA (gV 8) zE)<&>D.tup):AB)
def Dw(C:Addr):=((zN (WH<|zA (gV 2) zE) (gN 8)<|v7 C):AB)
def Dx(C:Addr):=((DE (QS (bB<|b2 (gV 12) (gR 11) EK)<|bB<|b2 (D7 (qT 4<|qV (gV 12) zE)<|Aq C) (λ_=>some<|D.bl true) M1) (qc<|λ_=>some<|D.bl false)<|λρ=>some<|Out.nx ρ):AB)
def Dy(C:Addr):=((DE (lL<|gR 11) (sq (zw 13<|b2 (gR 11) ((zA (gV 10)<|zA (zC 9829)<|zA (b1 (gR 11) pH) zE)>>=zK) KA)<|sq (sq (WO C "do" 4 (zA (gV 13) zE)<|cW C)<|λρ=>some<|Out.nx ρ)<|sq (zR2 [none,none,some 5,some 6] (cV (gV 13)<|cV (gV 3)<|cT DO 5<|cT DO 6 zE) Dc)<|vJ 9<|gV 13)<|λρ=>some<|Out.nx ρ):AB)
def Ri(C:Addr):=((sq (zN (iL<|(h8 6<|KS (qV (gV 2)<|qV (gV 3)<|qV (gV 5)<|qV (gV 10) zE) yT)<&>D.lst) (gN 12)<|Dx C)<|Dy C):AB)
def Rj(C:Addr):=((sq (zw 11<|(h8 6<|KS (qV (gV 2)<|qV (gV 3)<|qV (gV 5)<|qT 6 zE) yF)<&>D.lst)<|Ri C):AB)
def A7(C:Addr):=((sq (DE (ZO<|lL<|Fj 6<|D7 (qT 4<|qV (gV 2)<|qV (gV 3)<|qV (gV 5)<|qT 6<|qV (gV 9) zE)<|qi C) (qc<|λ_=>some<|D.bl false)<|λρ=>some<|Out.nx ρ)<|Rj C):AB)
def zKx(C:Addr):=((qc<|Fj 6<|D7 (qT 4<|qV (gV 2)<|qV (gV 3)<|qV (gV 5)<|qT 6<|qV (gV 9) zE)<|qi C):AB)
def Dd(C:Addr):=((sq (yJ 9 zE)<|sq (zN (iL<|(tP ((GJ (gR 0) (oI<|zC 5) (oI<|zC 45) Kz)<&>D.lst) US)<&>D.lst) (gN 10)<|A7 C)<|zKx C):AB)
def Qb(C:Addr):=((sq (zRy 6)<|sq (zN (WH<|zA (gV 2) zE) (gN 7)<|Dw C)<|Dd C):AB)
def De(C:Addr):=((sq (yJ 5<|zB 1 (WH<|zA (gV 2) zE) (gN 14) (λ_=>some true)<|Rh C)<|Qb C):AB)
def zKy(C:Addr):=((sq (DE (sV (bB<|b2 (λρ=>(aW 4 ρ).map D.bl) (b2 (λ_=>some D.non) (gR 3) JI) NF)<|aW 4) (qc<|iM (λρ=>(aW 4 ρ).map D.bl)<|b2 (λ_=>some D.non) (gR 3) JI)<|λρ=>some<|Out.nx ρ)<|De C):AB)
def Qc(C:Addr):=((sq (HR 4 (zA (gV 1) zE)<|D6 C)<|zKy C):AB)
def Dg(C:Addr):=((sq (zw 2<|b2 (gR 1) (zC 0) KA)<|sq (zw 3 λρ=>((zB 1 (WH<|zA (gV 2) zE) (gN 14) (λ_=>some true)<|Rg C) ρ).map D.lst)<|Qc C):AB)
noncomputable abbrev zYP:L Str:=["_law_script","_law_dance_here","_law_many","_law_parts","_law_hall_here","_law_states","_law_rows","_law_one","_law_other","_law_past","_law_cell_here","_law_moves_here","_law_bad","_law_move"]
def Um(C:Addr):=((sq (zw 1<|(zA (gV 0) zE)>>=Be)<|sq (DE (bB<|b2 (b2 ((zA (gV 0)<|zA (zC 4) zE)>>=zi) (zC 3) QJ) (zC 0) wB) (zw 1<|(zA (gV 1)<|zA (b2 ((zA (gV 0)<|zA (zC 4) zE)>>=zi) (zC 3) Sz) zE)>>=qw)<|λρ=>some<|Out.nx ρ)<|Dg C):AB)
def B2(C:Addr)(ds:L D):=(BI zYP (Um C) ds:Op D)
end K04
namespace K04
open PySem L2 RD LG
noncomputable def PL(n:Nat):L (Int×Int):=(DA n).flatMap λ(a:Nat)=>(DA n).map λ(b:Nat)=>((a:Int),(b:Int))
def ym(h:Hl):=((PL h.P.length).map λk=>(k,zu h k.1 k.2):L ((Int×Int)×L Str))
def zr(h:Hl):=((iF<|ym h).map λq=>(q.1,D.lst q.2):L (L kC×D))
theorem zOw{κ:Type}[DecidableEq κ](k:κ):∀Lv:L (κ×L D),PF (Lv.map λq=>(q.1,D.lst q.2)) k=(PF Lv k).map D.lst
 | []=>rfl
 |q::Lv=>by
  have ih:=zOw k Lv;unfold PF at ih|-;rw[kA,BB,BB];by_cases e:q.1=k
  .simp[e]
  .dsimp[e,decide_false];show ih
def Qd:(a,b)∈PL n↔(0<=a/\a<n)/\0<=b/\b<n:=by
 unfold PL;simp;constructor
 .rintro⟨x,hx,y,hy,rfl,rfl⟩;omega
 .rintro⟨h1,h2⟩;show#[a.toNat,01,b.toNat,01,01,01]
theorem Oo{J:Type}(g:Int×Int->J)(k:Int×Int):∀l:L (Int×Int),k∈l->(l.map λx=>(x,g x)).find? (λq=>decide<|q.1=k)>(k,g k)
 | [],h=>by simp at h
 |x::l,h=>by
  rw[kA,BB];by_cases e:x=k
  .simp[e]
  .dsimp[e,decide_false];show Oo g k l ((oA.mp h).resolve_left λz=>e z.symm)
def zSQ(h:Hl)(hk:(a,b)∈PL h.P.length):PF (zr h) (xI (a,b))>(.lst<|(zu h a b).map D.str):=by
 unfold zr;rw[zOw,LW,ym,Oo _ _ _ hk];rfl
def zYQ(w:Str)(l:L Str):JI (.str w) (.lst<|(l.take 1).map D.str)>(.bl<|decide<|[w]=l.take 1):=by
 cases l with
 |nil=>rfl
 |cons a l=>
  unfold JI;rw[if_pos<|by simp[LF]];dsimp[RH,VU,kA,nC,GE,List.any_nil,GD,dI];by_cases e:w=a
  .simp[e]
  .simp[e,Ne.symm e]
abbrev fm(h:Hl)(f:L Mv)(d s r:Sl):XA:=[!.int (h.P.length:Int),!.lst (h.P.map JE),!.lst (h.at'.map D.int),.z<|zr h,.l<|f.map CC,d,s,r]
def zLn(h:Hl)(f:L Mv)(i:Nat)(o:Int)(prs:L (Str×Int))(r:Sl):zF (gN 8) (λ_=>some true) An (prs.map ZD) (fm h f (!.int i) (!QD (.act true o prs)) r++[.un])>(prs.map λq=>(#[true,i,o,q.1]:Mv)).map CC:=by
 have:=zS (g:=gN 8) (p:=λ_=>some true) (f:=An) (ρ:=fm h f (!.int i) _ r++[.un]) _ (λq=>CC #[true,i,o,q.1]) prs λq _=>#[fm h f _ (!QD (.act true o prs)) r++[!ZD q],rfl,rfl,λ_=>rfl]
 rw[this,sC.mpr (by simp),UA];rfl
def zLo(h:Hl)(f:L Mv)(i:Nat)(o:Int)(prs:L (Str×Int))(l:L Str):zF (gN 8) qW Ao (prs.map ZD) (fm h f (!.int i) (!QD (.act false o prs)) (!.lst (l.map D.str))++[.un])>((prs.filter λq=>decide<|[q.1]=l.take 1).map λq=>(#[false,o,i,q.1]:Mv)).map CC:=by
 have:=zS (g:=gN 8) (p:=qW) (f:=Ao) (ρ:=fm h f _ _ _++[.un]) (λq=>decide<|[q.1]=l.take 1) (λq=>CC #[false,o,i,q.1]) prs λq _=>by
  refine#[fm h f (!.int i) (!QD (.act false o prs)) (!.lst (l.map D.str))++[!ZD q],rfl,?_,λ_=>rfl];have e:=zYQ q.1 l;have tk:=kr l;have z:KA (ZD q) (.int 0)>.str q.1:=rfl
  exists qW,e,tk,z,MB,WB,zF,gN,gT,FE,MF,zJ,NF
 rw[this,UA];rfl
end K04
namespace K04
open PySem L2 RD LG
def ZQ(h:Hl):=(∀(i:Nat)(t:Bool)(o:Int)(prs:L (Str×Int)),HK h i>.act t o prs->0<=o/\o<(h.P.length:Int):Prop)
def Dh{h:Hl}(H:HOk k h)(hs:HK h i>s):∃p n,KA (.lst<|h.P.map JE) (.int i)>JE p/\KA (.lst<|h.at'.map D.int) (.int i)>.int n/\KA (JE p) (.int n)>QD s:=by
 let(p,e1,hs):=aA.mp hs;let(n,z,e3):=aA.mp hs;have b:=H.inn i p n e1 z;refine#[p,n,AR (by simp[e1]),AR (by simp[z]),?_];have:=AR (xs:=p.map QD) (i:=n.toNat) (x:=QD s) (by simp[e3]);rw[show n.toNat=n by omega]at this;show this
def zYR{h:Hl}(hs:HK h i>s):i<h.P.length:=by
 let(p,e1,_):=aA.mp hs;show(vA.mp e1).1
def zJa{h:Hl}(H:HOk k h)(W:ZQ h)(hi:i<h.P.length)(f:L Mv)(hf:f.length<=900)(s6 s7:Sl):∃OF eJ,qX (fm h f (!.int i) s6 s7)>(.nx<|fm h (f++uJ h i) (!.int i) OF eJ):=by
 let(_,_,s,_,_,_,es,_,ok):=FQ H hi;let(p,n,i1,i2,i3):=Dh H es;have l1:=Ol H i
 have iO:zw 6 (b2 (b2 (gR 1) (gR 5) KA) (b2 (gR 2) (gR 5) KA) KA) (fm h f (!.int i) s6 s7)>(.nx<|fm h f (!.int i) (!QD s) s7):=by
  exists 0,fm,i1,i2,i3,wB
 unfold qX;rw[zI iO];have nil:uJ h i=[]->f++uJ h i=f:=λe=>by rw[e,WA]
 cases s with
 |fin=>
  refine#[!QD .fin,s7,?_];rw[nil (by unfold uJ;rw[es])];have z:KA (QD .fin) (.int 0)>.str "end":=rfl
  exists fm,z,eq_str,iW,gW,zF,gN,gT,FE,MF,zQ,zJ,NF
 |rests=>
  refine#[!QD .rests,s7,?_];rw[nil (by unfold uJ;rw[es])];have z:KA (QD .rests) (.int 0)>.str "rests":=rfl
  exists fm,z,eq_str,V3,U3,zF,gN,gT,FE,MF,zQ,zJ,NF
 |act t o prs=>
  have J:=j8 t o prs;have O:=k8 t o prs;have Y:prs.length<=1000000:=by have:=(ok:gZ _ _ _).few;omega
  cases t with
  |true=>
   have em:uJ h i=prs.map λq=>#[true,i,o,q.1]:=by unfold uJ;rw[es]
   have cp:=zLn h f i o prs s7;rw[<- em]at cp;have z:KA (QD<|.act true o prs) (.int 0)>.str "tells":=rfl;have q:f.length+(uJ h i).length<=1000000:=01
   refine#[!QD (.act true o prs),s7,?_];dsimp[fm,MB,WB]at cp
   exists fm,cP,gL,z,O,eq_str,W3,beq_self_eq_true,cp,Y,q,uA,zQ,zJ,NF
  |false=>
   have em:uJ h i=(prs.filter λq=>decide<|[q.1]=(zu h o i).take 1).map λq=>#[false,o,i,q.1]:=by unfold uJ;rw[es]
   have cp:=zLo h f i o prs<|zu h o i;rw[<- em]at cp;have z:KA (QD<|.act false o prs) (.int 0)>.str "hears":=rfl;have w:=W i false o prs es;have zg:=zSQ h (a:=o) (b:=i) (Qd.mpr #[w,01]);have kt:HM (.tup [.int o,.int i])>xI (o,i):=rfl;have q:f.length+(uJ h i).length<=1000000:=01
   refine#[!QD (.act false o prs),!.lst ((zu h o i).map D.str),?_];dsimp[fm,MB,WB]at cp
   exists fm,cP,gL,fX,k6,z,J,O,kt,zg,eq_str,jW,beq_self_eq_true,cp,Y,q,uA,zQ,zJ,NF
theorem jk{h:Hl}(H:HOk k h)(W:ZQ h):∀(is:L Nat)(acc:L Mv)(s5 s6 s7:Sl),(∀i∈is,i<h.P.length)->acc.length+20*is.length<=900->∃z J O,zJ (gN 5) qX (is.map λ(i:Nat)=>D.int<|0+(i:Int)) (fm h acc s5 s6 s7)>(.nx<|fm h (acc++is.flatMap (uJ h)) z J O)
 | [],acc,s5,s6,s7,_,_=>#[s5,s6,s7,by simp[zJ]]
 |i::is,acc,s5,s6,s7,hi,hl=>by
  rw[sA]at hl;let(a,b,st):=zJa H W (hi i eA) acc 01 s6 s7;have l1:=Ol H i;let(z,J,O,ih):=jk H W is (acc++uJ h i) _ a b (λj hj=>hi j<|cA _ hj) (by grind);refine#[z,J,O,?_];rw[kA,lD,yK rfl st,ih,OB,dB]
def zKz{h:Hl}(H:HOk k h)(W:ZQ h):yF [!.int (h.P.length:Int),!.lst (h.P.map JE),!.lst (h.at'.map D.int),.z<|zr h]>(.inr<|(uH h).map CC):=by
 refine Du λas=>?_
 have m4:=H.m4;let(a,b,c,e):=jk H W _ [] _ _ _ (λi hi=>VB.mp hi) (by grind);change(Bj _).bind _=_;unfold Bj;rw[zI (ρ':=fm h [] _ _ _) rfl,zI<|K04.sFor_eq (KP rfl<|01) e];rfl
end K04
namespace K04
open PySem L2 RD LG
def zVa(h:n<=4):(PL n).Nodup:=by
 rcases n with _|_|_|_|_|n<;>first|decide|omega
theorem zK0{f:L Str->L Str}(g:Int×Int->L Str):∀l:L (Int×Int),l.Nodup->SJ k f (l.map λx=>(x,g x))=l.map λx=>(x,if x=k then f (g x) else g x)
 | [],_=>rfl
 |x::l,h=>by
  let(h1,h2):=uB.mp h;rw[kA,kA,SJ];by_cases e:x=k
  .subst e;dsimp[if_true]
   congr 1
   refine uC λy hy=>?_
   rw[if_neg λz=>h1<|by simp_all]
  .dsimp[e,if_false];rw[zK0 g l h2]
def zOx(H:HOk k h)(a b:Int):(zu h a b).length<=k:=by
 unfold zu
 cases e:h.R.find? _ with
 |none=>show LB _
 |some q=>show H.rl q<|bG e
def zK1(H:HOk k h)(v:Mv)(n:Int)(f:L Str->L Str)(hf:∀a b,zu (AL h v n) a b=if (a,b)=(v.a,v.b) then f (zu h a b) else zu h a b):SJ (v.a,v.b) f (ym h)=ym (AL h v n):=by
 unfold ym;rw[zK0 _ _<|zVa H.m4];refine uC λx _=>?_
 rw[hf _ _]
def zYS{fA fB:TB}{prs:L (Str×Int)}(h1:fA ρ>(.tup<|prs.map ZD))(h2:fB ρ>.str w)(rs:SM (prs.map (·.1)))(hl:prs.length<=1000)(hn:(prs.find? λq=>decide<|q.1=w).map (·.2)>n):MT fA fB ρ>.int n:=by
 unfold MT;rw[h1,dA,zOU rs hl,dA,h2,dA];rw[show FK _>_ from rfl,dA,Sv,hn];rfl
abbrev fd(v:Mv)(h:Hl)(x:L Int)(R:L ((Int×Int)×L Str))(a2 a3:Addr)(s:Sl):XA:=[!CC v,!.lst (h.P.map JE),.o (some a2)<|.p<|.l<|x.map D.int,.o (some a3)<|.p<|.tl<|iF R,s]
def zVb{h:Hl}(H:HOk k h){v:Mv}(hs:HK h v.who>.act v.t o prs)(hn:ER h v.who v.w>n)(R:L ((Int×Int)×L Str))(a2 a3:Addr):
  (Fk 2 (gV 4)<|MT (b2 (b2 (b2 (gR 1) (gR 4) KA) (b2 (bO 2) (gR 4) KA) KA) (zC 2) KA)<|b2 (gR 0) (zC 3) KA) (fd v h h.at' R a2 a3<|!.int v.who)>(.nx<|fd v h (h.at'.set v.who n) R a2 a3<|!.int v.who):=by
 let(p,m,z,i2,i3):=Dh H hs;have hi:=zYR hs;have i4:=k8 v.t o prs;have J:=Uj v;let(p',Y,s',e1,U,e3,es,_,ok):=FQ H hi;rw[hs]at es;cases es;have nx:=by unfold ER at hn;rw[hs]at hn;show hn
 have dx:=zYS (ρ:=fd v h h.at' R a2 a3<|!.int v.who) (fA:=b2 (b2 (b2 (gR 1) (gR 4) KA) (b2 (bO 2) (gR 4) KA) KA) (zC 2) KA) (fB:=b2 (gR 0) (zC 3) KA) (by
  exists 0,fd,bO,z,i2,i3,i4,wB) (by exists 0,fd,J,wB) ok.rs (by have:=ok.few;omega) nx
 unfold Fk;rw[dx];have O:WG (h.at'.map D.int).length _>_:=zOd (by rw[lA,H.len];show hi);change(WG _ v.who).map _=_;rw[O];dsimp[fd,XM,VA];rfl
def S3:(YO true==iA "hear")=false:=by decide +kernel
def R3:(YO false==iA "hear")=true:=by decide +kernel
def D2{h:Hl}(H:HOk k h)(hk:k<=1000)(W:ZQ h){v:Mv}(hv:v∈uH h)(hn:ER h v.who v.w>n):Dc [!CC v,!.lst (h.P.map JE),.t<|.p<|.l<|h.at'.map D.int,.t<|.p<|.tl<|iF<|ym h] =
  some (.non,[!CC v,!.lst (h.P.map JE),.t<|.p<|.l<|(AL h v n).at'.map D.int,.t<|.p<|.tl<|iF<|ym<|AL h v n]):=by
 refine zNm λas=>?_
 let(o,prs,n',hw,hs,_,aU,O):=Rf H hv;rw[hn]at aU;cases aU;have w:=W _ _ _ _ hs;have U:=zYE v;have i1:=Uh v;have i2:=Ui v;have i3:=Uj v;have kt:HM (.tup [.int v.a,.int v.b])>xI (v.a,v.b):=rfl
 have key:((zA (b2 (gR 0) (zC 1) KA)<|zA (b2 (gR 0) (zC 2) KA) zE)<|fd v h h.at' (ym h) (as 2) (as 3)<|!.int v.a).map D.tup>.tup [.int v.a,.int v.b]:=by
  exists 0,fd,i1,i2,wB
 have Jr:((zA (b2 (gR 0) (zC 1) KA)<|zA (b2 (gR 0) (zC 2) KA) zE)<|fd v h h.at' (ym h) (as 2) (as 3)<|!.int v.b).map D.tup>.tup [.int v.a,.int v.b]:=by
  exists 0,fd,i1,i2,wB
 have Jo:(v.a,v.b)∈PL h.P.length:=by
  rw[Qd]
  cases z:v.t with
  |true=>rw[z,if_pos rfl]at O;omega
  |false=>rw[z,if_neg CB]at O;omega
 have Hh:(ym h).find? (λq=>decide<|q.1=(v.a,v.b))>((v.a,v.b),zu h v.a v.b):=Oo _ _ _ Jo;have gt:PF (iF<|ym h) (xI (v.a,v.b))>(zu h v.a v.b).map D.str:=by rw[LW,Hh];rfl
 have Ab:zw 4 (b2 (gR 0) (zC 1) KA) (fd v h h.at' (ym h) (as 2) (as 3) .un)>(.nx<|fd v h h.at' (ym h) (as 2) (as 3)<|!.int v.a):=by
  exists 0,fd,i1,wB
 have body:Y6 (fd v h h.at' (ym h) (as 2) (as 3) .un)>(.nx<|fd v h (h.at'.set v.who n) (ym<|AL h v n) (as 2) (as 3)<|!.int v.who):=by
  unfold Y6;rw[zI Ab]
  have mid:(DE (bB<|b2 (b2 (gR 0) (zC 0) KA) (λ_=>some<|D.str "hear") wB) (sq (zw 4<|b2 (gR 0) (zC 2) KA)<|M7 3<|λρ=>((zA (b2 (gR 0) (zC 1) KA)<|zA (b2 (gR 0) (zC 2) KA) zE) ρ).map D.tup)<|J7 3 (λρ=>((zA (b2 (gR 0) (zC 1) KA)<|zA (b2 (gR 0) (zC 2) KA) zE) ρ).map D.tup)<|b2 (gR 0) (zC 3) KA) (fd v h h.at' (ym h) (as 2) (as 3)<|!.int v.a)>(.nx<|fd v h h.at' (ym<|AL h v n) (as 2) (as 3)<|!.int v.who):=by
   cases z:v.t with
   |true=>
    rw[z,if_pos rfl]at O;rw[z]at U
    have b0:bB (b2 (b2 (gR 0) (zC 0) KA) (λ_=>some<|D.str "hear") wB) (fd v h h.at' (ym h) (as 2) (as 3)<|!.int v.a)>false:=by
     exists 0,fd,U,eq_str,S3
    have ln:((zu h v.a v.b).map D.str).length<1000000:=by rw[lA];have:=zOx H v.a v.b;omega
    have f3:b2 (gR 0) (zC 3) KA (fd v h h.at' (ym h) (as 2) (as 3)<|!.int v.a)>.str v.w:=by
     exists 0,fd,i3,wB
    have st:=S7 (f:=(· ++ [v.w])) (xs:=zu h v.a v.b) (k:=(v.a,v.b)) (R:=ym h) (by rw[Hh];rfl)
    rw[zK1 H v n (· ++ [v.w]) (λa b=>by
     have:=zOg h (v.a,v.b) v.w a b;change zu #[h.P,h.at'.set v.who n,yb v h.R,h.past++[v]] a b=_;unfold yb;rw[if_pos z];show this),uA]at st
    unfold DE;rw[b0,dA,if_neg CB];unfold J7;change((((zA _ _) _).map D.tup).bind _)=_;rw[key,dA,kt,dA,gt,dA,f3,dA,if_pos ln];change some (Out.nx<|(fd v h h.at' (ym h) (as 2) (as 3)<|!.int v.a).set 3<|.o (some<|as 3)<|.p<|.tl<|nI (xI (v.a,v.b)) ((zu h v.a v.b).map D.str++[.str v.w])<|iF<|ym h)=_;rw[show[D.str v.w]=[v.w].map D.str from rfl,st,O.1]
    rfl
   |false=>
    rw[z,if_neg CB]at O;rw[z]at U
    have b0:bB (b2 (b2 (gR 0) (zC 0) KA) (λ_=>some<|D.str "hear") wB) (fd v h h.at' (ym h) (as 2) (as 3)<|!.int v.a)>true:=by
     exists 0,fd,U,eq_str,R3
    have s1:zw 4 (b2 (gR 0) (zC 2) KA) (fd v h h.at' (ym h) (as 2) (as 3)<|!.int v.a)>(.nx<|fd v h h.at' (ym h) (as 2) (as 3)<|!.int v.b):=by
     exists 0,fd,i2,wB
    let(kR,hb,hr):=O
    have er:∃l,zu h v.a v.b=v.w::l:=by
     cases hl:zu h v.a v.b with
     |nil=>rw[hl]at hr;cases hr
     |cons x l=>rw[hl]at hr;cases hr;show#[l,rfl]
    let(l,er):=er;have st:=S7 (f:=LH) (xs:=zu h v.a v.b) (k:=(v.a,v.b)) (R:=ym h) (by rw[Hh];rfl)
    rw[zK1 H v n LH (λa b=>by
     have:=zOh h (v.a,v.b) a b;change zu #[h.P,h.at'.set v.who n,yb v h.R,h.past++[v]] a b=_;unfold yb;rw[if_neg (by rw[z];show CB)];show this),er]at st
    unfold DE;rw[b0,dA,if_pos rfl,zI s1];unfold M7;change((((zA _ _) _).map D.tup).bind _)=_;rw[Jr,dA,kt,dA,gt,er];change some (Out.nx<|(fd v h h.at' (ym h) (as 2) (as 3)<|!.int v.b).set 3<|.o (some<|as 3)<|.p<|.tl<|nI (xI (v.a,v.b)) (l.map D.str)<|iF<|ym h)=_;rw[show l.map D.str=((v.w::l).tail).map D.str from rfl,st,kR];rfl
  rw[zI mid];show zVb H hs hn _ _ _
 change(Y6<|fd v h h.at' (ym h) (as 2) (as 3) .un).bind _=_;rw[body];simp[NW,HU,mI,AL]
end K04
namespace K04
open PySem L2 RD LG
def zYT{w:Str}(h:HH w):(cj w).length<=32:=by
 have:=StrLaws.reprText_len w λc m=>by have:=(h.2.2 c m).2;omega
 have:=h.2.1;omega
def zSR{i:Int}(h0:0<=i)(h1:i<4):((toString i:String):Str).length<=4:=by
 rcases D8 h0 h1 with rfl|rfl|rfl|rfl<;>decide +kernel
def zYU:∀t:Bool,(cj<|YO t).length<=32:=by
 intro t;cases t<;>decide +kernel
def EZ{v:Mv}(ha:0<=v.a/\v.a<4)(hb:0<=v.b/\v.b<4)(hw:HH v.w):∃d,u9 " can't be done" (CC v)>d:=by
 have r1:=zYU v.t;have r2:=zYT hw;have r3:=zSR ha.1 ha.2;have O:=zSR hb.1 hb.2
 have e:OS [.str<|YO v.t,.int v.a,.int v.b,.str v.w]>[cj<|YO v.t,(toString v.a:String),(toString v.b:String),cj v.w]:=by
  dsimp[OS]
  grind
 have l:=tupleText_len_le [cj<|YO v.t,(toString v.a:String),(toString v.b:String),cj v.w];dsimp[kA,nC,jI,QI,sA,aE]at l;have J:(oF).length=0:=rfl;have U:(iA " can't be done").length=14:=by decide +kernel
 change∃d,((OS _).bind _)>d;rw[e,dA,if_pos (by rw[RD.app_len,RD.app_len,J];omega)];show#[_,rfl]
def Z1(H:HOk k h)(C:Addr){v:Mv}(hv:v∉uH h)(ha:0<=v.a/\v.a<4)(hb:0<=v.b/\v.b<4)(hw:HH v.w):Eu C (QC C h) [CC v]>1:=by
 refine yc λa=>?_
 let(d,e):=EZ ha hb hw;have z:=zYF H C v;rw[decide_eq_false hv]at z;have b0:yr C _ 0 (zA (gV 1) zE) _ [.b a _,.v _,.un]>_:=yq rfl (zSK C h) rfl z;change(Et C [.b a _,.v _,.un]).bind _=_;unfold Et;rw[R7]
 .rfl
 .unfold KR
  have:ZO (lL<|yr C "can_be_done" 0 (zA (gV 1) zE)<|yE C) [.b a<|QC C h,!CC v,.un]>true:=by
   unfold ZO lL;rw[b0];rfl
  rw[this,dA];unfold vR
  have:zA (b1 (gV 1)<|u9 " can't be done") zE [.b a<|QC C h,!CC v,.un]>[d]:=by
   change((some _).bind _).bind _=_
   simp_all
  rw[this];rfl
def zLp(H:HOk k h)(C:Addr){v:Mv}(hv:v∉uH h)(ha:0<=v.a/\v.a<4)(hb:0<=v.b/\v.b<4)(hw:HH v.w):Aq C [.b 0<|QC C h,!CC v]>(.inl<|.bl true):=by
 refine Du λas=>?_
 have md:=Z1 H C hv ha hb hw;change(Ap C [.b _ _,.v _,.un,.un]).bind _=_;unfold Ap;rw[zI rfl,zI (ρ':=[.b _ _,.v _,.v _,.un])]
 .rfl
 .unfold Ej;change(ME (some _) _)=_;rw[dA,if_pos<|zX8 C h];change(Eu C _ [CC v]).bind _=_;rw[md];rfl
end K04
namespace K04
open PySem L2 RD LG
def bd(m:Int)(i:Nat)(o:Int)(w:Str):=([#[false,o,i,w],#[false,(o+1)%m,i,w],#[true,i,(o+1)%m,w],#[true,i,o,wz w]]:L Mv)
noncomputable def KY(h:Hl)(c:Int):L Mv:=
 let m:Int:=h.P.length
 let i:=(c%m).toNat
 [#[false,i,(c+1)%m,"zz"],#[true,i,(c+1)%m,"a"]]++match HK h i with
   |some (.act _ o prs)=>prs.flatMap λq=>bd m i o q.1
   |_=>[]
abbrev fb(h:Hl)(c:Int)(i:Nat)(f:L Mv)(s6 s7 s8:Sl):XA:=[!.int (h.P.length:Int),!.lst (h.P.map JE),!.lst (h.at'.map D.int),!.int c,!.int i,.l<|f.map CC,s6,s7,s8]
def Eg{f:L Mv}{g:TB}(hf:f.length<=1000)(e:g (fb h c i f s6 s7 s8)>CC v):vJ 5 g (fb h c i f s6 s7 s8)>(.nx<|fb h c i (f++[v]) s6 s7 s8):=by
 change(some _).bind _=_;rw[dA,if_pos (by rw[lA];omega),e];dsimp[fb,uA,nC];rfl
def zRO{h:Hl}{f:L Mv}{q:Str×Int}(hf:f.length<=900)(m0:0<h.P.length)(hw:HH q.1):z6 (fb h c i f (!QD (.act t o prs)) (!.str q.1)<|!.int q.2)>(.nx<|fb h c i (f++bd h.P.length i o q.1) (!QD (.act t o prs)) (!.str q.1)<|!.int q.2):=by
 have J:=j8 t o prs;have m1:(0:Int)<(h.P.length:Int):=01
 have hl:q.1.length<=1000000:=by have:=hw.2.1;omega
 have zz:b2 (GJ (gR 7) (λ_=>some none) (oI<|zC 2) aK) (λ_=>some<|D.str "z") yd (fb h c i (f++[#[false,o,i,q.1]]++[#[false,(o+1)%h.P.length,i,q.1]]++[#[true,i,(o+1)%h.P.length,q.1]]) (!QD (.act t o prs)) (!.str q.1)<|!.int q.2)>(.str<|wz q.1):=
  qd (if_pos hl) rfl (by
   have O:(q.1.cps.toList.take 2).length<=2:=by simp;omega
   rw[zR9,Tw];show(zXt (by rw[j7,j7];show JA (nP O 1)<|02)).trans (by rw[Qq];rfl))
 unfold z6;rw[zI<|Eg (v:=#[false,o,i,q.1]) 01 ?_,zI (Eg (v:=#[false,(o+1)%h.P.length,i,q.1]) (by simp;omega) ?_),zI (Eg (v:=#[true,i,(o+1)%h.P.length,q.1]) (by simp;omega) ?_),Eg (v:=#[true,i,o,wz q.1]) (by simp;omega) ?_]
 .simp[bd]
 .have z:=zz;generalize b2 _ (λ_=>some<|D.str "z") yd=g at z|-
  exists 0,fb,J,z,wB
  rfl
 .exists 0,fb,J,m1,wB
  rfl
 .exists 0,fb,J,m1,wB
  rfl
 .rfl
theorem zK3{h:Hl}(m0:0<h.P.length):∀(l:L (Str×Int))(f:L Mv)(s7 s8:Sl),(∀q∈l,HH q.1)->f.length+4*l.length<=900->∃O J,zJ (gT 2<|FE (gN 7)<|FE (gN 8) MF) z6 (l.map ZD) (fb h c i f (!QD (.act t o prs)) s7 s8)>(.nx<|fb h c i (f++l.flatMap λq=>bd h.P.length i o q.1) (!QD (.act t o prs)) O J)
 | [],f,s7,s8,_,_=>#[s7,s8,by simp[zJ]]
 |q::l,f,s7,s8,hw,hl=>by
  rw[sA]at hl;have st:=zRO (c:=c) (i:=i) (f:=f) (t:=t) (o:=o) (prs:=prs) 01 m0<|hw q eA;let(a,b,ih):=zK3 m0 l (f++bd _ i o _) _ _ (λx hx=>hw x<|cA _ hx) (by simp[bd];omega);refine#[a,b,?_];rw[kA,yK rfl st,ih,OB,dB]
def zYV{h:Hl}(H:HOk k h)(m0:0<h.P.length)(c:Int):yT [!.int (h.P.length:Int),!.lst (h.P.map JE),!.lst (h.at'.map D.int),!.int c]>(.inr<|(KY h c).map CC):=by
 refine Du λas=>?_
 have m1:(0:Int)<(h.P.length:Int):=01
 have e0:=HC c<|ON m1;have e1:=RB c m1;obtain⟨i,hi⟩:∃i:Nat,c%(h.P.length:Int)=i:=#[(c%(h.P.length:Int)).toNat,01]
 have z:(c%(h.P.length:Int)).toNat=i:=01
 rw[hi]at e1;let(_,_,s,_,_,_,es,_,ok):=FQ H (i:=i) 01;let(p,n,J,i2,i3):=Dh H es;unfold KY;dsimp[z,es];change(qZ [!.int (h.P.length:Int),!.lst (h.P.map JE),!.lst (h.at'.map D.int),!.int c,.un,.un,.un,.un,.un]).bind _=_;unfold qZ;rw[zI (ρ':=[!.int (h.P.length:Int),!.lst (h.P.map JE),!.lst (h.at'.map D.int),!.int c,!.int i,.un,.un,.un,.un]) (by exists 0,m1,hi,wB)]
 rw[zI (ρ':=fb h c i [#[false,i,(c+1)%h.P.length,"zz"],#[true,i,(c+1)%h.P.length,"a"]] .un .un .un) (by
  exists 0,fb,m1,wB
  rfl)]
 rw[zI (ρ':=fb h c i [#[false,i,(c+1)%h.P.length,"zz"],#[true,i,(c+1)%h.P.length,"a"]] (!QD s) .un .un) (by exists 0,fb,J,i2,i3,wB)]
 cases s with
 |fin=>rfl
 |rests=>rfl
 |act t o prs=>
  have ok:gZ _ _ _:=ok;let(a,b,O):=zK3 (c:=c) (i:=i) (t:=t) (o:=o) (prs:=prs) m0 prs [#[false,i,(c+1)%h.P.length,"zz"],#[true,i,(c+1)%h.P.length,"a"]] .un .un ok.wd (by have:=ok.few;simp;omega);have U:=zX9 t o prs;have i4:=k8 t o prs;have b0:bB (b2 (b2 (gR 6) (zC 0) KA) (λρ=>((zA (λ_=>some<|D.str "tells")<|zA (λ_=>some<|D.str "hears") zE) ρ).map D.tup) JI) (fb h c i [#[false,i,(c+1)%h.P.length,"zz"],#[true,i,(c+1)%h.P.length,"a"]] (!QD (.act t o prs)) .un .un)>true:=by cases t<;>rfl
  rw[zI (ρ':=fb h c i _ (!QD (.act t o prs)) a b)]
  .rfl
  .unfold DE;rw[b0,dA,if_pos rfl];show K04.sFor_eq (ds:=prs.map ZD) rfl O
end K04
namespace K04
open PySem L2 RD LG
def JU{f:TB}(h:f ρ>.bl b):bB f ρ>b:=by unfold bB;rw[h];rfl
def UW{c:QE}{F F':AB}(h:c ρ>false)(k:F' ρ=r):DE c F F' ρ=r:=by unfold DE;rw[h];show k
def zVc(C:Addr)(h:Hl):fK C "is_over" (QC C h)=true:=DR C h _ (rfl) (rfl) (rfl)<|rfl
noncomputable def quiet:LG.St->Bool
 |.act _ _ _=>false
 |_=>true
def zRP(s:LG.St):∃k,KA (QD s) (.int 0)>.str k/\EK (.str k) (.tup [.str<|iA "end",.str<|iA "rests"])>(.bl<|not<|quiet s):=by
 cases s with
 |fin=>show#[_,rfl,rfl]
 |rests=>show#[_,rfl,rfl]
 |act t o prs=>cases t<;>show#[_,rfl,rfl]
def zOy(H:HOk k h)(C a:Addr)(hs:HK h i>s):i6 C [.b a<|QC C h,!.int (i:Int)]>(if quiet s then .nx [.b a<|QC C h,!.int (i:Int)] else .rt (.bl false)):=by
 let(J,e1,z):=zRP s
 have c:bB (b2 (b2 (yr C _ 0 (zA (gV 1) zE) _) (λ_=>some _) _) (λρ=>((zA (λ_=>some _)<|zA (λ_=>some _) zE) ρ).map _) _) [.b a _,.v _]>_:=
  JU (qd (qd (yq rfl (Nc C h) rfl<|Re H C hs) rfl e1) rfl z)
 cases q:quiet s with
 |true=>rw[q]at c;show UW c rfl
 |false=>rw[q]at c;show wY c rfl
theorem zIc{h:Hl}(H:HOk k h)(C a:Addr):∀(is:L Nat)(s1:Sl),(∀i∈is,i<h.P.length) ->
  (∃P3,zJ (gN 1) (i6 C) (is.map λ(i:Nat)=>D.int<|0+(i:Int)) [.b a<|QC C h,s1]>.nx [.b a<|QC C h,P3]/\∀i∈is,∀s,HK h i>s->quiet s=true) \/
  (zJ (gN 1) (i6 C) (is.map λ(i:Nat)=>D.int<|0+(i:Int)) [.b a<|QC C h,s1]>(.rt<|.bl false)/\∃i∈is,∃s,HK h i>s/\quiet s=false)
 | [],s1,_=>.inl #[s1,rfl,λi hi=>nomatch hi]
 |i::is,s1,hi=>by
  let(p,n,s,e1,O,e3,es,b,ok):=FQ H<|hi i eA;have t:=zOy H C a es;rw[kA,lD]
  cases q:quiet s with
  |false=>
   rw[q]at t
   show .inr #[zU4 rfl t,i,eA,s,es,q]
  |true=>
   rw[q]at t;rw[yK rfl t];rcases zIc H C a is _ (λj hj=>hi j<|cA _ hj) with⟨P3,e,al⟩|⟨e,j,hj,z⟩
   .refine .inl #[P3,e,λj hj s' J=>?_];rcases oA.mp hj with rfl|hj
    .grind
    .show al j hj s' J
   .show .inr #[e,j,cA _ hj,z]
noncomputable def JM(h:Hl):Bool:=(DA h.P.length).all λi=>match HK h i with
 |some s=>quiet s
 |none=>true
noncomputable def OP(h:Hl):Bool:=h.R.all λq=>q.2.isEmpty
def zVd(H:HOk k h)(hk:k<=1000)(C:Addr):On C (QC C h) []>(.bl<|JM h&&OP h):=by
 have m4:=H.m4
 have Y:∀a s1,WH (zA (b1 (λρ=>(CI C 0 "parts" ρ).bind ZN) pH) zE) [.b a<|QC C h,s1]>rng 0 h.P.length:=λa s1=>by
  refine KP ?_ 01
  have:b1 (λρ=>(CI C 0 "parts" ρ).bind ZN) pH [.b a<|QC C h,s1]>.int (h.P.length:Int):=by
   have J:=Oj C h;dsimp[b1,CI,eM,ZA,dA,J,ZN,pH,lA]
  dsimp[zA,this,dA,VA]
 have rl:=H.rn
 have av:∀a s1,b1 (λρ=>((C7 C 1 0 "rows" (gN 2)<|j6 C) ρ).map D.lst) LU _>(.bl<|OP h):=λa s1=>by
  have J:CI C 0 "rows" [.b a<|QC C h,s1]>(.f<|.tl<|iF h.R):=by
   have J:=Pu C h;dsimp[CI,eM,ZA,dA,J]
  have cp:=zS (g:=gN 2) (p:=λ_=>some true) (f:=j6 C) (ρ:=nA 3 Sl.un) (λ_=>true) (λq=>D.bl q.2.isEmpty) h.R λq _=>by
   refine#[[.un,.un,!.lst (q.2.map D.str)],rfl,rfl,λ_=>qd (b:=.int 0) rfl rfl ?_]
   unfold wB;rw[if_pos<|by simp[LF]];unfold GD;cases q.2 with
   |nil=>rfl
   |cons x l=>rfl
  rw[sC.mpr<|by simp]at cp
  have sc:C7 C 1 0 "rows" (gN 2) (j6 C) [.b a<|QC C h,s1]>(h.R.map λq=>q.2.isEmpty).map D.bl:=by
   unfold C7;rw[J,dA];simp only;rw[if_pos (by dsimp[iF,lA];omega),show(iF h.R).map _=h.R.map λq=>D.lst (q.2.map D.str) by unfold iF;rw[UA];rfl];refine(congrArg (λz=>ME z _)<|cp.trans<|congrArg some (UA (g:=D.bl)).symm).trans ?_;rw[dA,A6];rfl
  unfold b1;dsimp only;rw[sc,VA,dA];unfold LU;dsimp[A6,VA];rw[UG];rfl
 refine yc λa=>?_
 change(U6 C [.b a<|QC C h,.un]).bind _=_;rcases zIc H C a _ .un (λi hi=>VB.mp hi) with⟨P3,e,al⟩|⟨e,i,hi,s,hs,q⟩
 .have O:JM h=true:=by
   unfold JM;rw[GB];intro i hi
   cases z:HK h i with
   |none=>rfl
   |some s=>show al i hi s z
  have:U6 C _>_:=(zI<|K04.sFor_eq (Y a .un) e).trans<|congrArg _<|av a P3;rw[this,O];rfl
 .have O:JM h=false:=by
   rw[<- Bool.not_eq_true];intro z;have:=GB.mp z i hi;rw[hs]at this;rw[show quiet s=true from this]at q;cases q
  have:U6 C _>(.rt<|.bl false):=Fo<|K04.sFor_eq (Y a .un) e;rw[this,O];rfl
structure RK(h:Hl):Prop where
 nd:(h.R.map (·.1)).Nodup
 inn:∀q∈h.R,q.1∈PL h.P.length
def Fs(h:Hl):=((PL h.P.length).all λk=>(zu h k.1 k.2).isEmpty:Bool)
def zYW{h:Hl}(r:RK h){q:(Int×Int)×L Str}(hq:q∈h.R):zu h q.1.1 q.1.2=q.2:=by
 unfold zu;have:=r.nd;generalize h.R=R at this hq
 induction R with
 |nil=>simp at hq
 |cons x R ih=>
  rw[kA]at this;let(h1,h2):=uB.mp this;rw[BB];rcases oA.mp hq with rfl|hq
  .simp
  .have:x.1≠q.1:=λz=>h1 (by rw[z];show YB hq)
   dsimp[this,decide_false];show ih h2 hq
def zRR(r:RK h):Fs h=OP h:=by
 rw[ZG];unfold Fs OP;rw[GB,GB];constructor
 .intro z q hq;have:=z _<|r.inn q hq;rw[zYW r hq]at this;show this
 .intro z k _;unfold zu
  cases e:h.R.find? _ with
  |none=>rfl
  |some q=>show z q<|bG e
end K04
namespace K04
open PySem L2 RD LG
theorem Rk:∀{ds:L D},(∀d∈ds,LF d<=n)->GH ds<=n
 | [],_=>LB _
 |d::ds,h=>Ur.mpr #[h d eA,Rk λx hx=>h x<|cA _ hx]
def Rl(h:∀d∈ds,LF d<=19):NF (.tup ds) (.tup ds)>.bl false:=by
 have:LF (.tup ds)<=20:=JG<|Rk h;unfold NF;rw[if_pos<|01,O6];rfl
def zVe(h:∀d∈ds,LF d<=19):wB (.tup ds) (.tup ds)>.bl true:=by
 have:LF (.tup ds)<=20:=JG<|Rk h;unfold wB;rw[if_pos<|01,O6]
def Dz{z:Type}(f:z->D)(h:∀x,LF (f x)<=19)(l:L z):∀d∈l.map f,LF d<=19:=λd m=>by
 let(x,_,rfl):=QA.mp m;show h x
def zRS(h:n<=4):(PL n).length<=16:=by
 rcases n with _|_|_|_|_|n<;>first|decide|omega
def zOz(v:Mv):LF (CC v)<=19:=JC rfl
def zSS{f g:TB}(h1:f ρ>.bl true)(h2:g ρ=r):iM f g ρ=r:=by unfold iM;rw[h1];show h2
def zO0(C:Addr)(h:Hl):fK C "states" (QC C h)=true:=DR C h _ rfl rfl rfl rfl
def zLq(C:Addr)(h:Hl):Da C (QC C h) []>(.tup<|h.at'.map D.int):=by
 refine yc λa=>?_
 have z:=Sw C h
 exists 0,dP,Qa,CI,eM,ZN,z,wB
abbrev fs(C a:Addr)(h:Hl)(s6 s7 s8:Sl):XA:=[.b a<|QC C h,!.int (h.P.length:Int),!.lst (h.P.map JE),!.lst (h.at'.map D.int),.z<|zr h,!.lst (h.past.map CC),s6,s7,s8]
noncomputable def kD(k:Int×Int):D:=.tup [.int k.1,.int k.2]
def zYX(C a:Addr)(h:Hl)(s6 s7 s8:Sl):iZ 4 (fs C a h s6 s7 s8)>(PL h.P.length).map kD:=by
 change some ((zr h).map _)=_;unfold zr ym iF;rw[UA,UA,UA];rfl
def zYY(C a:Addr)(h:Hl)(s6 s7 s8:Sl)(t:L Sl){k:Int×Int}(hk:k∈PL h.P.length){f:TB}(hf:f (fs C a h s6 s7 s8++t)>kD k):fX 4 f (fs C a h s6 s7 s8++t)>(.lst<|(zu h k.1 k.2).map D.str):=by
 change(some _).bind _=_;rw[dA,hf,dA];change(some _).bind _=_;show zSQ h hk
def zO1(C a:Addr)(h:Hl)(s7 s8:Sl)(hk:k∈PL h.P.length):Ar C (fs C a h (!kD k) s7 s8)>(.nx<|fs C a h (!kD k) s7 s8):=by
 have J:yr C _ 0 (zA (b2 (gR 6) (zC 0) KA)<|zA (b2 (gR 6) (zC 1) KA) zE) _ (fs C a h (!kD k) s7 s8)>_:=yq rfl (zSJ C h) rfl<|zOX C h _ _;have z:=zYY C a h (.v _) s7 s8 [] hk (f:=λρ=>NQ ρ 6) rfl;rw[WA]at z
 have b0:bB (b2 _ (b1 (fX 4 _) OH) _) _>_:=
  JU (qd J (by unfold b1;rw[z];rfl)<|Rl<|Dz _ (λ_=>LB _) _)
 refine UW ?_ rfl;unfold QS;have n0:bB (b2 (b2 (gR 6) (zC 0) KA) (b2 (gR 6) (zC 1) KA) NF) (fs C a h (!kD k) s7 s8)>(not<|(k.1==k.2)):=rfl
 simp_all
theorem zIe(C a:Addr)(h:Hl)(s7 s8:Sl):∀(l:L (Int×Int))(s6:Sl),(∀k∈l,k∈PL h.P.length)->∃z,zJ (gN 6) (Ar C) (l.map kD) (fs C a h s6 s7 s8)>(.nx<|fs C a h z s7 s8)
 | [],s6,_=>#[s6,rfl]
 |k::l,s6,hl=>by
  let(z,ih):=zIe C a h s7 s8 l _ λx hx=>hl x<|cA _ hx
  show#[z,by rw[kA,yK rfl<|zO1 C a h s7 s8<|hl k eA,ih]]
def zVf(s:LG.St):∃k,KA (QD s) (.int 0)>.str k/\JI (.str k) (.tup [.str<|iA "end",.str<|iA "rests"])>(.bl<|quiet s):=by
 cases s with
 |fin=>show#[_,rfl,rfl]
 |rests=>show#[_,rfl,rfl]
 |act t o prs=>cases t<;>show#[_,rfl,rfl]
noncomputable def Kj(h:Hl)(i:Nat):Bool:=match HK h i with
 |some s=>quiet s
 |none=>true
def zYZ(H:HOk k h)(C a:Addr)(s6 s7 s8:Sl):b1 (λρ=>((zB 1 (WH<|zA (gV 1) zE) (gN 9) (λ_=>some true)<|As C) ρ).map D.lst) LU (fs C a h s6 s7 s8)>(.bl<|JM h):=by
 have m4:=H.m4
 have cp:=zS (g:=gN 9) (p:=λ_=>some true) (f:=As C) (ρ:=fs C a h s6 s7 s8++[.un]) (λ_=>true) (λi=>D.bl<|Kj h i) _ λi hi=>by
  refine#[fs C a h s6 s7 s8++[!.int (0+(i:Int))],rfl,rfl,λ_=>?_];let(_,_,s,_,_,_,es,_,_):=FQ H<|VB.mp hi;let(p,n,J,i2,i3):=Dh H es;let(O,e1,z):=zVf s;unfold Kj;rw[es,lD];show qd (qd (qd (qd rfl rfl J) (qd rfl rfl i2) i3) rfl e1) rfl z
 rw[sC.mpr<|by simp]at cp;have sc:=XX (m:=1) (f:=WH<|zA (gV 1) zE) (KP (n:=h.P.length) rfl<|01) (by simp[rng];omega) cp;unfold b1;dsimp only;rw[sc,VA,dA,show(DA h.P.length).map _=((DA h.P.length).map<|Kj h).map D.bl by rw[UA];rfl];unfold LU;dsimp[A6,VA];rw[UG];rfl
def zYa(C a:Addr)(h:Hl)(hm:h.P.length<=4)(s6 s7 s8:Sl):Fn (λρ=>((zB 1 (iZ 4) (gN 9) (qY C)<|Au C) ρ).map D.lst) (fs C a h s6 s7 s8)>(.bl<|Fs h):=by
 have cp:=zS (g:=gN 9) (p:=qY C) (f:=Au C) (emb:=kD) (ρ:=fs C a h s6 s7 s8++[.un]) (λk=>not<|(zu h k.1 k.2).isEmpty) kD _ λk hk=>by
  refine#[fs C a h s6 s7 s8++[!kD k],rfl,?_,λ_=>rfl];have J:=zYY C a h s6 s7 s8 [!kD k] hk (f:=λρ=>NQ ρ 9) rfl;unfold qY lL;rw[J];simp[Ft]
 have z:((PL h.P.length).map kD).length<=1000000:=by
  rw[lA];have:=zRS hm;omega
 have sc:=XX (m:=1) (zYX C a h s6 s7 s8) z cp;unfold Fn;dsimp only;rw[sc,VA,dA]
 congr 2
 unfold Fs;generalize PL h.P.length=l
 induction l with
 |nil=>rfl
 |cons k l ih=>
  rw[AG,pX]
  cases (zu h k.1 k.2).isEmpty with
  |true=>simpa using ih
  |false=>rfl
def zRT{h:Hl}(H:HOk k h)(hk:k<=1000)(W:ZQ h)(r:RK h)(C:Addr):qi C [.b 0<|QC C h,!.int (h.P.length:Int),!.lst (h.P.map JE),!.lst (h.at'.map D.int),.z<|zr h,!.lst (h.past.map CC)]>(.inl<|.bl true):=by
 refine Du λas=>?_
 change(Bk C<|fs C (as 0) h .un .un .un).bind _=_
 have c1:bB (b2 (yr C "states" 0 zE<|Da C) (b1 (gR 3) OH) NF) (fs C (as 0) h .un .un .un)>false:=
  JU (qd (yq rfl (zO0 C h) rfl<|zLq C h) rfl<|Rl<|Dz _ (λ_=>LB _) _)
 have c2:bB (b2 (yr C "done" 0 zE<|Eo C) (b1 (gR 5) OH) NF) (fs C (as 0) h .un .un .un)>false:=
  JU (qd (yq rfl (zVK C h) rfl<|zRE C h) rfl<|Rl<|Dz _ zOz _)
 unfold Bk;rw[zI<|UW (by unfold sV;rw[c1,dA];show c2) rfl];let(s6,U):=zIe C (as 0) h .un .un (PL h.P.length) .un λ_ z=>z
 unfold Mx;rw[zI<|K04.sFor_eq (zYX C (as 0) h .un .un .un) U];unfold Mw;rw[zI<|zx<|zYZ H C (as 0) s6 .un .un];have J:=zYa C (as 0) h H.m4 s6 (!.bl (JM h)) .un;rw[zRR r]at J
 rw[zI<|zx (d:=.bl<|JM h&&OP h) (by
  unfold iM;change(some<|D.bl<|JM h).bind _=_;rw[dA];change(some<|JM h).bind _=_;rw[dA]
  revert J
  cases JM h with
  |true=>intro J;rw[if_pos rfl];show J
  |false=>intro _;rfl)]
 unfold Mu;rw[zI (ρ':=fs C (as 0) h s6 _ _)<|zx<|yq rfl (zVc C h) rfl<|zVd H hk C];have ml:=zKz H W
 have e1:b1 (λρ=>((KS (qV (gV 1)<|qV (gV 2)<|qV (gV 3)<|qT 4 zE) yF) ρ).map D.lst) OH (fs C (as 0) h s6 (!.bl (JM h&&OP h))<|!.bl (JM h&&OP h))>(.tup<|(uH h).map CC):=by
  unfold b1 KS;change(((yF _).bind (·.getRight?)).map D.lst).bind OH=_;rw[ml];rfl
 have O:=qd (op:=wB) (yq (i:=0) (fl:=λ_=>some []) rfl (zKi C h) rfl<|zYB H C) e1<|zVe<|Dz CC zOz<|uH h
 have e3:b2 (gR 8) (gR 7) wB (fs C (as 0) h s6 (!.bl (JM h&&OP h))<|!.bl (JM h&&OP h))>.bl true:=by
  cases (JM h&&OP h)<;>rfl
 have fin:(iM (b1 (gR 8)<|o8 "bool")<|iM (b2 (gR 8) (gR 7) wB)<|b2 (yr C "moves" 0 zE<|m7 C) (b1 (λρ=>((KS (qV (gV 1)<|qV (gV 2)<|qV (gV 3)<|qT 4 zE) yF) ρ).map D.lst) OH) wB) (fs C (as 0) h s6 (!.bl (JM h&&OP h))<|!.bl (JM h&&OP h))>.bl true:=by
  show zSS rfl<|zSS e3 O
 unfold qc;rw[fin];rfl
end K04
namespace K04
open PySem L2 RD LG
def nV(P:L (L LG.St)):=(∀p∈P,∀s∈p,∀t o prs,s=.act t o prs->0<=o/\o<(P.length:Int):Prop)
def So{h:Hl}(w:nV h.P):ZQ h:=λi t o prs e=>by
 let(p,e1,e):=aA.mp e;let(n,z,e3):=aA.mp e;show w p (xA e1) _ (xA e3) t o _ rfl
def zRU(h:t∈turns ps d K):t∈ps:=by
 let(h,_):=cD.mp h;let(n,_,e):=aB.mp h;show xA e
def zYb(h:zj m ps)(e:RJ ps d Ks K=.act t o prs):0<=o/\o<m:=by
 unfold RJ at e
 cases q:turns ps d K with
 |nil=>simp_all
 |cons u us=>
  rw[q]at e;have ok:=h.ok u (zRU (by rw[q];show eA))
  cases u with
  |fin=>cases e
  |tell a b ch=>
   by_cases c:a=d
   .dsimp[LG.ask,if_pos c]at e;cases e;show#[ok.b0,ok.b1]
   .dsimp[LG.ask,if_neg c]at e;cases e;show#[ok.a0,ok.a1]
def zLr{m:Int}(h:zj m ps)(hp:tU ps (DA m.toNat) P):nV P:=λp hm s hs t o prs e=>by
 let(l,g):=hp.get;let(j,hj):=SN.mp hm;let(i,_,Ks,_,rfl):=g j p hj;let(K,_,rfl):=QA.mp hs;have:=zYb h e
 grind
theorem Oq(k:Int×Int)(f:L Str->L Str):∀R:L ((Int×Int)×L Str),(SJ k f R).map (·.1)=R.map (·.1)
 | []=>rfl
 |q::R=>by
  unfold SJ;split
  .rfl
  .rw[kA,kA,Oq k f R]
def J3(H:HOk k h)(W:ZQ h)(r:RK h)(hv:v∈uH h)(n:Int):RK (AL h v n):=by
 let(o,prs,_,hw,hs,_,_,Y):=Rf H hv;have w:=W _ _ _ _ hs
 have Jo:(v.a,v.b)∈PL h.P.length:=by
  rw[Qd]
  cases U:v.t with
  |true=>rw[U,if_pos rfl]at Y;omega
  |false=>rw[U,if_neg CB]at Y;omega
 have O:∀f,((SJ (v.a,v.b) f _).map _).Nodup/\∀q∈SJ (v.a,v.b) f _,q.1∈PL _:=λf=>by
  refine#[by rw[Oq];show r.nd,λq hq=>?_];have:q.1∈(SJ _ f _).map _:=YB hq;rw[Oq]at this;let(x,hx,e):=QA.mp this;rw[<- e];show r.inn x hx
 have fin:((yb v h.R).map (·.1)).Nodup/\∀q∈yb v h.R,q.1∈PL h.P.length:=by
  unfold yb;split
  .unfold QQ;split
   .show O _
   .rename_i e
    have nk:(v.a,v.b)∉h.R.map (·.1):=λz=>by
     let(q,hq,e1):=QA.mp z;have:=cQ.mp e q hq;simp[e1]at this
    refine#[by rw[uA];show rB.mpr #[r.nd,by simp,λa ha b hb z=>by simp at hb;subst hb;show nk<|z ▸ ha],λq hq=>?_];rcases pA.mp hq with hq|hq
    .show r.inn q hq
    .cases gA.mp hq;show Jo
  .show O _
 show#[fin.1,fin.2]
def Q2:HH (iA "zz"):=by unfold HH;decide +kernel
def Ke:HH (iA "a"):=by unfold HH;decide +kernel
def zVg{h:Hl}(H:HOk k h)(W:ZQ h)(m0:0<h.P.length)(c:Int):∀v∈KY h c,(0<=v.a/\v.a<4)/\(0<=v.b/\v.b<4)/\HH v.w:=by
 have m4:=H.m4;have m1:(0:Int)<h.P.length:=01
 have e1:=RB c m1;have J:=HC (c+1)<|ON m1;have O:=RB (c+1) m1;intro v hv;unfold KY at hv;rcases pA.mp hv with hv|hv
 .rcases oA.mp hv with rfl|hv
  .show#[by simp only;omega,by simp;omega,Q2]
  .cases gA.mp hv;show#[by simp only;omega,by simp;omega,Ke]
 .split at hv
  .rename_i t o prs es;let(q,hq,hv):=sD.mp hv;let(_,_,s,_,_,_,z,_,ok):=FQ H<|zYR es;rw[es]at z;cases z;have wd:=ok.wd q hq;have w:=W _ _ _ _ es;have U:=HC (o+1)<|ON m1;have g1:=RB (o+1) m1;unfold bd at hv;simp at hv;rcases hv with rfl|rfl|rfl|rfl<;>refine#[by simp;omega,by simp;omega,?_]<;>first|show wd|show zXr wd
  .cases hv
end K04
namespace K04
open PySem L2 RD LG
abbrev fL(C:Addr)(s0 s1:Sl)(h:Hl)(s7 s8 s10 s11 s12 s13:Sl):XA:=[s0,s1,!.int (h.P.length:Int),!.lst (h.P.map JE),.o none<|QC C h,.l<|h.at'.map D.int,.o none<|.p<|.tl<|iF<|ym h,s7,s8,.l<|h.past.map CC,s10,s11,s12,s13]
section
variable {C:Addr}{s0 s1 s7 s8 s10 s11 s12 s13:Sl}{h:Hl}{k:Nat}
def zIf(H:HOk k h)(hk:k<=1000)(W:ZQ h)(r:RK h):Fj 6 (D7 (qT 4<|qV (gV 2)<|qV (gV 3)<|qV (gV 5)<|qT 6<|qV (gV 9) zE)<|qi C) (fL C s0 s1 h s7 s8 s10 s11 s12 s13)>.bl true:=by
 have e:=zRT H hk W r C;change(ME ((qi C [.b 0 _,.v _,.v _,.v _,.z<|zr h,.v _]).bind _) _)=_;rw[e];rfl
def zK4(l:L Mv):(l.map CC).all Fi=true:=by
 rw[UG,GB];intro v _;rfl
def zO3(H:HOk k h)(W:ZQ h):h8 6 (KS (qV (gV 2)<|qV (gV 3)<|qV (gV 5)<|qT 6 zE) yF) (fL C s0 s1 h s7 s8 s10 s11 s12 s13)>(uH h).map CC:=by
 have e:=zKz H W;change(ME ((yF [.v _,.v _,.v _,.z<|zr h]).bind _) _)=_;rw[e];change(if ((uH h).map _).all _=true then _ else _)=_;rw[if_pos<|zK4 _]
def zRV(H:HOk k h)(m0:0<h.P.length)(c:Int):h8 6 (KS (qV (gV 2)<|qV (gV 3)<|qV (gV 5)<|qV (gV 10) zE) yT) (fL C s0 s1 h s7 s8 (!.int c) s11 s12 s13)>(KY h c).map CC:=by
 have e:=zYV H m0 c;change(ME ((yT _).bind _) _)=_;rw[e];change(if ((KY h c).map _).all _=true then _ else _)=_;rw[if_pos<|zK4 _]
def zYc(v:Mv)(l:L Mv):EK (CC v) (.lst<|l.map CC)>(.bl<|not<|decide (v∈l)):=by
 have:=zYD v l;unfold JI at this;unfold EK
 simp_all
def zRW(H:HOk k h){v:Mv}(hv:(0<=v.a/\v.a<4)/\(0<=v.b/\v.b<4)/\HH v.w):Dx C (fL C s0 s1 h s7 s8 s10 (!.lst ((uH h).map CC)) (!CC v) s13)>(.nx<|fL C s0 s1 h s7 s8 s10 (!.lst ((uH h).map CC)) (!CC v) s13):=by
 refine UW ?_ rfl;have c1:bB (b2 (gV 12) (gR 11) _) (fL C s0 s1 h s7 s8 s10 (.v _) (.v _) s13)>_:=JU<|qd rfl rfl<|zYc v<|uH h;unfold QS;rw[c1];by_cases m:v∈uH h
 .rw[decide_eq_true m];rfl
 .rw[decide_eq_false m];have e:=zLp H C m hv.1 hv.2.1 hv.2.2;refine JU<|qd (a:=.bl true) ?_ rfl rfl;change(Aq C _).bind _=_;rw[e];rfl
theorem zO4(H:HOk k h):∀(l:L Mv)(s12:Sl),(∀v∈l,(0<=v.a/\v.a<4)/\(0<=v.b/\v.b<4)/\HH v.w)->∃z,zJ (gN 12) (Dx C) (l.map CC) (fL C s0 s1 h s7 s8 s10 (!.lst ((uH h).map CC)) s12 s13)>(.nx<|fL C s0 s1 h s7 s8 s10 (!.lst ((uH h).map CC)) z s13)
 | [],s12,_=>#[s12,rfl]
 |v::l,s12,hl=>by
  let(z,ih):=zO4 H l _ λx hx=>hl x<|cA _ hx
  show#[z,by rw[kA,yK rfl<|zRW H<|hl v eA,ih]]
structure Tn(k:Nat)(P:List (List LG.St))(h:Hl):Prop where
 ok:HOk k h
 p:h.P=P
 w:nV h.P
 r:RK h
 m0:0<h.P.length
def zRX(T:Tn k P h)(hk:k<=1000)(c:Int):∃h' Y,Tn (k+1) P h'/\Dy C (fL C s0 s1 h s7 s8 (!.int c) (!.lst ((uH h).map CC)) s12 s13)>(.nx<|fL C s0 s1 h' s7 s8 (!.int c) (!.lst ((uH h).map CC)) s12 Y):=by
 have W:=So T.w;unfold Dy;by_cases e:(uH h)=[]
 .refine#[h,s13,#[#[T.ok.len,T.ok.m4,T.ok.inn,T.ok.st,jJ T.ok.rn,λq hq=>jJ<|T.ok.rl q hq,jJ T.ok.pl],T.p,T.w,T.r,T.m0],UW ?_ rfl];rw[e];rfl
 .have ln:0<(uH h).length:=List.length_pos_iff.mpr e;have z:(0:Int)<((uH h).map CC).length:=by rw[lA];omega
  have a0:=yO c 9829 z;have a1:=yP c 9829 z;obtain⟨j,hj⟩:∃j:Nat,XE c 9829 ((uH h).map CC).length=j:=#[(XE c 9829 ((uH h).map CC).length).toNat,01]
  have U:j<(uH h).length:=by rw[hj,lA]at a1;omega
  have O:=xB U;have hv:=MC U;generalize (uH h)[j]=v at O hv;let(n,o,prs,hw,hs,hp,hn,md):=zYJ T.ok hk C hv;have ml:=D2 T.ok hk W hv hn;have mm:=LL (c:=c) (p:=9829) 02 z;rw[hj]at mm;refine#[AL h v n,!CC v,#[zSM T.ok hs hp,T.p,T.w,J3 T.ok W T.r hv n,T.m0],wY ?_ ?_]
  .change Ft (.lst<|(uH h).map CC)>true
   cases hm:uH h with
   |nil=>show absurd hm e
   |cons x l=>rfl
  .rw[zI (ρ':=fL C s0 s1 h s7 s8 (!.int c) _ s12<|!CC v)]
   .rw[zI (ρ':=[s0,s1,.v _,!.lst (h.P.map JE),.o none<|QC C<|AL h v n,.l<|h.at'.map D.int,.o none _,s7,s8,.l<|h.past.map CC,!.int c,.v _,s12,!CC v])]
    .rw[zI (ρ':=[s0,s1,!.int (h.P.length:Int),!.lst (h.P.map JE),.o none<|QC C<|AL h v n,.l _,.o none _,s7,s8,.l<|h.past.map CC,!.int c,.v _,s12,!CC v])]
     .have pl:=T.ok.pl;change(some<|h.past.map CC).bind _=_;rw[dA,if_pos (by rw[lA];omega)];change some (Out.nx _)=_;rw[show h.past.map CC++[CC v]=(AL h v n).past.map CC by unfold AL;rw[uA];rfl];rfl
     .change(Dc _).bind _=_;rw[ml];rfl
    .show(zI<|Px (c:=none) rfl (zX8 C h) rfl md).trans rfl
   .refine(zx (d:=CC v)<|qd (b:=.int j) rfl ?_<|AR (by rw[MA,O];rfl)).trans rfl;show mm
def zRY(T:Tn k P h)(hk:k<=1000)(c:Int):∃h' a b d,Tn (k+1) P h'/\A7 C (fL C s0 s1 h s7 s8 (!.int c) s11 s12 s13)>(.nx<|fL C s0 s1 h' s7 s8 (!.int c) a b d):=by
 have W:=So T.w;have O:=zIf (C:=C) (s0:=s0) (s1:=s1) (s7:=s7) (s8:=s8) (s10:=!.int c) (s11:=s11) (s12:=s12) (s13:=s13) T.ok hk W T.r;let(b,J):=zO4 T.ok _ _<|zVg T.ok W T.m0 c;let(h',d,z,e):=zRX T hk c;refine#[h',!.lst ((uH h).map CC),b,d,z,?_];unfold A7;rw[zI<|UW (by unfold ZO lL;rw[O];rfl) rfl];unfold Rj;rw[zI (ρ':=fL C s0 s1 h s7 s8 _ _ _ _)<|(zx (by rw[zO3 T.ok W];rfl)).trans rfl];unfold Ri
 rw[zI<|K04.sFor_eq (by
  unfold iL;dsimp only;rw[zRV T.ok T.m0 c];rfl) J]
 show e
theorem zIg:∀(cs:L Int)(k:Nat)(h:Hl)(s10 s11 s12 s13:Sl),Tn k P h->k+cs.length<=1000->∃h' a b c d,Tn (k+cs.length) P h'/\zJ (gN 10) (A7 C) (cs.map D.int) (fL C s0 s1 h s7 s8 s10 s11 s12 s13)>(.nx<|fL C s0 s1 h' s7 s8 a b c d)
 | [],k,h,s10,s11,s12,s13,T,_=>#[h,s10,s11,s12,s13,T,rfl]
 |c::cs,k,h,s10,s11,s12,s13,T,hk=>by
  rw[sA]at hk;let(h1,a1,b1,d1,z,e1):=zRY T 01 c;let(h',a,b,J,d,O,e):=zIg cs _ h1 _ a1 b1 d1 z 01;refine#[h',a,b,J,d,by grind,?_];rw[kA,yK rfl e1,e]
end
end K04
namespace K04
open PySem L2 RD LG
theorem zO5(e h:Int):∀(ps:L Pl)(k:Nat)(p:Pl),DI e h ((ps.set k p).map fC)<=DI e h (ps.map fC)+(cG p).length
 | [],k,p=>by simp[DI]
 |q::ps,0,p=>by
  rw[WD,kA,kA,DI,DI]
  have:C8 e h (fC p)<=(cG p).length:=by
   cases p with
   |fin=>simp[fC,C8]
   |tell a b ch=>
    dsimp[fC,C8,cG,lA];have:=Tu e h a b;show JA (Nat.mul_le_mul_left _ this) 01
  omega
 |q::ps,k+1,p=>by
  have:=zO5 e h ps k p;rw[pI,kA,kA,DI,DI];omega
noncomputable def hX:Except Nat D->D
 |.ok d=>d
 |.error _=>.non
def zVi{m:Int}{ps:L Pl}(hd:zj m ps)(hf:cN ps){i:Nat}(hi:(i:Int)<m):E6 [EB m ps,.int (i:Int)]>(hX∘kL m ps) i:=by
 rw[Function.comp_apply];have J:PS m ps i:=#[hd,hf,01,hi]
 have q:=zRN J;have z:=zKd J;unfold kL;generalize GK ps i 20000000 0 [mE ps i [0]]=R at q z;generalize yR [EB m ps,.int i]=M at z|-;rw[q];rcases z with⟨rfl,rfl⟩|⟨Ks,rfl,_,rfl⟩<;>rfl
abbrev fB(s0 s1 s2 s3 s4 s5 s7 s8 s9 s10 s11 s12 s13:Sl)(Lv:L (Int×Int)):XA:=[s0,s1,s2,s3,s4,s5,.o none<|.p<|.tl<|iF<|Lv.map λk=>(k,[]),s7,s8,s9,s10,s11,s12,s13]
section
variable {s0 s1 s3 s4 s5 s9 s10 s11 s12 s13:Sl}
def zRZ(C:Addr){Lv:L (Int×Int)}(h:(a,b)∉Lv)(hl:Lv.length<1000):v7 C (fB s0 s1 s2 s3 s4 s5 (!.int a) (!.int b) s9 s10 s11 s12 s13 Lv)>(.nx<|fB s0 s1 s2 s3 s4 s5 (!.int a) (!.int b) s9 s10 s11 s12 s13<|Lv++[(a,b)]):=by
 unfold v7 Ei;change(if (PF (iF<|Lv.map λk=>(k,[]))<|xI (a,b)).isNone=true/\(iF<|Lv.map λk=>(k,[])).length<1000000 then _ else _)=_;rw[if_pos]
 .change some (Out.nx [s0,s1,s2,s3,s4,s5,.o none<|.p<|.tl<|iF (Lv.map λk=>(k,[]))++[(xI (a,b),[])],!.int a,!.int b,s9,s10,s11,s12,s13])=_;unfold fB iF;rw[uA,uA];rfl
 .refine#[?_,by unfold iF;rw[lA,lA];omega];rw[LW,cQ.mpr λq hq=>?_]
  .rfl
  .let(k,hk,rfl):=QA.mp hq;intro z;show h<|of_decide_eq_true z ▸ hk
theorem zYd(C:Addr)(a:Int):∀(bs:L Nat)(Lv:L (Int×Int))(s8:Sl),(∀b∈bs,(a,(b:Int))∉Lv)->bs.Nodup->Lv.length+bs.length<=1000->∃J,zJ (gN 8) (v7 C) (bs.map λ(i:Nat)=>D.int<|0+(i:Int)) (fB s0 s1 s2 s3 s4 s5 (!.int a) s8 s9 s10 s11 s12 s13 Lv)>(.nx<|fB s0 s1 s2 s3 s4 s5 (!.int a) J s9 s10 s11 s12 s13<|Lv++bs.map λ(b:Nat)=>(a,(b:Int)))
 | [],Lv,s8,_,_,_=>#[s8,by rw[nC,nC,WA];rfl]
 |b::bs,Lv,s8,h,nd,hl=>by
  rw[sA]at hl;rw[uB]at nd
  let(J,e):=zYd C (s2:=s2) a bs (Lv++[(a,(b:Int))]) (!.int (b:Int)) (λc hc z=>by
   rcases pA.mp z with z|z
   .show h c (cA _ hc) z
   .rw[gA]at z;have:c=b:=by injection z;omega
    show nd.1<|this ▸ hc) nd.2 (by simp;omega)
  refine#[J,?_];rw[kA,lD,yK rfl<|zRZ C (h b eA)<|01,e,dB];rfl
theorem zYe(C:Addr){n:Nat}(hn:n<=4):∀(as:L Nat)(Lv:L (Int×Int))(s7 s8:Sl),(∀a∈as,∀b,((a:Int),b)∉Lv)->as.Nodup->Lv.length+4*as.length<=1000->∃O J,zJ (gN 7) (Dw C) (as.map λ(i:Nat)=>D.int<|0+(i:Int)) (fB s0 s1 (!.int (n:Int)) s3 s4 s5 s7 s8 s9 s10 s11 s12 s13 Lv)>(.nx<|fB s0 s1 (!.int (n:Int)) s3 s4 s5 O J s9 s10 s11 s12 s13<|Lv++as.flatMap λ(a:Nat)=>(DA n).map λ(b:Nat)=>((a:Int),(b:Int)))
 | [],Lv,s7,s8,_,_,_=>#[s7,s8,by rw[BJ,WA];rfl]
 |a::as,Lv,s7,s8,h,nd,hl=>by
  rw[sA]at hl;rw[uB]at nd;let(J,e):=zYd (s0:=s0) (s1:=s1) (s3:=s3) (s4:=s4) (s5:=s5) (s9:=s9) (s10:=s10) (s11:=s11) (s12:=s12) (s13:=s13) C (s2:=!.int (n:Int)) a (DA n) Lv s8 (λb _=>h a eA b) OR (by rw[dE];omega)
  let(O,U,Y):=zYe C hn as (Lv++(DA n).map λ(b:Nat)=>((a:Int),(b:Int))) (!.int (a:Int)) J (λc hc b z=>by
   rcases pA.mp z with z|z
   .show h c (cA _ hc) b z
   .let(d,_,z):=QA.mp z;have:c=a:=by injection z;omega
    show nd.1<|this ▸ hc) nd.2 (by rw[OA,lA,dE];omega)
  refine#[O,U,?_];rw[kA,lD,yK rfl<|show Dw C _=_ from(LG.sFor_eq<|KP (n:=n) rfl<|01).trans e,Y,dB];rfl
end
theorem zO6:∀l:L (Except Nat D),NP l=.error 0->.error 0∈l
 | [],h=>nomatch h
 |.error c::r,h=>by cases h;show eA
 |.ok y::r,h=>by
  unfold NP at h
  cases e:NP r with
  |ok ys=>rw[e]at h;cases h
  |error c=>rw[e]at h;cases h;show cA _<|zO6 r e
def r11{ps:L Pl}{P:L (L LG.St)}(T:Tn 0 P (qM P))(C:Addr){ns:L Int}(hn:ns.length<=63)(s1 s7 s8:Sl):Dd C [!.lst (ns.map D.int),s1,!.int (P.length:Int),!.lst (P.map JE),.o none<|QC C<|qM P,.l<|(qM P).at'.map D.int,.o none<|.p<|.tl<|iF<|ym<|qM P,s7,s8,.un,.un,.un,.un,.un]>(.rt<|.bl true):=by
 let(cs,e3,O,_):=zU5 D.int ns (some 5)<|some 45;unfold Dd;rw[zI (ρ':=fL C (!.lst (ns.map D.int)) s1 (qM P) s7 s8 .un .un .un .un) rfl];let(h,a,b,c,d,z,J):=zIg (C:=C) (s0:=!.lst (ns.map D.int)) (s1:=s1) (s7:=s7) (s8:=s8) cs 0 (qM P) .un .un .un .un T 01
 rw[zI<|(LG.sFor_eq (ds:=cs.map D.int) (by
  change(QF D.lst<|some<|zQ (ns.map D.int) (some 5)<|some 45).bind j9=_;rw[e3];rfl)).trans J]
 show Di (zIf z.ok 01 (So z.w) z.r)
def r13{ps:L Pl}{P:L (L LG.St)}(T:Tn 0 P (qM P))(U:2<=P.length)(J:P.length<=4)(C:Addr){ns:L Int}(hn:ns.length<=63)(s1:Sl):De C [!.lst (ns.map D.int),s1,!.int (P.length:Int),!.lst (P.map JE),.o none<|QC C<|qM P,.un,.un,.un,.un,.un,.un,.un,.un,.un]>(.rt<|.bl true):=by
 have rg:∀s4 s5 s6 s7 s8,WH (zA (gV 2) zE) [!.lst (ns.map D.int),s1,!.int P.length,!.lst (P.map JE),s4,s5,s6,s7,s8,.un,.un,.un,.un,.un]>rng 0 P.length:=λ_ _ _ _ _=>KP rfl 01
 unfold De
 have z:zF (gN 14) (λ_=>some true) (Rh C) (rng 0 P.length) [!.lst (ns.map D.int),s1,!.int P.length,!.lst (P.map JE),.o none<|QC C<|qM P,.un,.un,.un,.un,.un,.un,.un,.un,.un,.un]>((DA P.length).map λ_=>D.int 0):=
  o6 (λ(i:Nat)=>D.int<|0+(i:Int)) (λ_=>D.int 0) (DA P.length) λi hi=>#[_,rfl,rfl]
 have O:((DA P.length).map λ_=>D.int 0)=(qM P).at'.map D.int:=by
  change _=(P.map λ_=>(0:Int)).map D.int;rw[UA];refine AJ (by simp) λi _ _=>by simp
 rw[zI (ρ':=[!.lst (ns.map D.int),s1,!.int P.length,!.lst (P.map JE),.o none<|QC C<|qM P,.l<|(qM P).at'.map D.int,.un,.un,.un,.un,.un,.un,.un,.un]) (by
  unfold yJ;rw[XX (rg _ _ _ _ _) (by rw[Rb];omega) z,O];rfl)]
 unfold Qb;rw[zI (ρ':=[!.lst (ns.map D.int),s1,!.int P.length,!.lst (P.map JE),.o none<|QC C<|qM P,.l<|(qM P).at'.map D.int,.o none<|.p<|.tl<|iF<|([]:L (Int×Int)).map λk=>(k,[]),.un,.un,.un,.un,.un,.un,.un]) rfl];let(s7,s8,ff):=zYe (s0:=!.lst (ns.map D.int)) (s1:=s1) (s3:=!.lst (P.map JE)) (s4:=.o none<|QC C<|qM P) (s5:=.l<|(qM P).at'.map D.int) (s9:=.un) (s10:=.un) (s11:=.un) (s12:=.un) (s13:=.un) C (n:=P.length) J (DA P.length) [] .un .un (λ_ _ _ z=>nomatch z) OR (by rw[dE];simp;omega);rw[zI<|(LG.sFor_eq<|rg _ _ _ _ _).trans ff];show r11 (ps:=ps) T C hn s1 s7 s8
def rest{m:Int}{ps:L Pl}(hd:zj m ps)(hf:cN ps)(C:Addr)(ns:L Int)(hn:ns.length<=63):Dg C [!.lst (ns.map D.int),!EB m ps,.un,.un,.un,.un,.un,.un,.un,.un,.un,.un,.un,.un]>(.rt<|.bl true):=by
 have U:=hd.m0;have oR:=hd.m1;have e0:KA (EB m ps) (.int 0)>.int m:=by dsimp[EB,KA,FJ]
 have em:((m.toNat:Nat):Int)=m:=01
 unfold Dg;rw[zI (ρ':=[!.lst (ns.map D.int),!EB m ps,!.int m,.un,.un,.un,.un,.un,.un,.un,.un,.un,.un,.un])<|(zx<|qd rfl rfl e0).trans rfl]
 have cp:zF (gN 14) (λ_=>some true) (Rg C) (rng 0 m.toNat) [!.lst (ns.map D.int),!EB m ps,!.int m,.un,.un,.un,.un,.un,.un,.un,.un,.un,.un,.un,.un]>((DA m.toNat).map<|hX∘kL m ps):=
  o6 (λ(i:Nat)=>D.int<|0+(i:Int)) (hX∘kL m ps) (DA m.toNat) λi hi=>by
   have hi:=VB.mp hi;refine#[[!.lst (ns.map D.int),!EB m ps,!.int m,.un,.un,.un,.un,.un,.un,.un,.un,.un,.un,.un,!.int (0+(i:Int))],rfl,?_];rw[lD];show(congrArg (λo=>ME o E6)<|Os (a:=EB m ps) rfl<|Os (a:=.int (i:Int)) rfl rfl).trans (zVi hd hf<|01)
 rw[zI (ρ':=[!.lst (ns.map D.int),!EB m ps,!.int m,.v<|.lst<|(DA m.toNat).map<|hX∘kL m ps,.un,.un,.un,.un,.un,.un,.un,.un,.un,.un])<|(zx<|congrArg (QF D.lst)<|XX (KP (n:=m.toNat) (by rw[em];rfl)<|01) (by rw[Rb];omega) cp).trans rfl];unfold Qc;rcases zOk hd hf C with⟨er,e⟩|⟨P,J,hq,e⟩
 .have nn:((DA m.toNat).map<|hX∘kL m ps).any (λd=>GD d .non)=true:=by
   let(i,hi,e):=QA.mp<|zO6 _ er;show jF.mpr #[.non,QA.mpr #[i,hi,by rw[Function.comp_apply,e];rfl],rfl]
  generalize (DA m.toNat).map (hX∘kL m ps)=Lv at nn;rw[zI (ρ':=[!.lst (ns.map D.int),!EB m ps,!.int m,!.lst Lv,.v .non,.un,.un,.un,.un,.un,.un,.un,.un,.un])<|(Pt (ds:=[EB m ps]) rfl e).trans rfl];have z:b2 (λ_=>some D.non) (gR 3) JI [!.lst (ns.map D.int),!EB m ps,!.int m,!.lst Lv,.v .non,.un,.un,.un,.un,.un,.un,.un,.un,.un]>.bl true:=qd rfl rfl (by rw[<- nn];rfl);refine Fo<|wY ?_<|Di ?_
  .unfold sV;rw[JU (b:=false)<|qd (a:=.bl true) (b:=.bl true) rfl z rfl];rfl
  .unfold iM;show z
 .let(H0,Y):=zRH hd hf J
  have O:(DA m.toNat).map (hX∘kL m ps)=P.map JE:=by
   rw[<- UA,hq,UA];rfl
  rw[O,zI (ρ':=[!.lst (ns.map D.int),!EB m ps,!.int m,!.lst (P.map JE),.o none<|QC C<|qM P,.un,.un,.un,.un,.un,.un,.un,.un,.un])<|(Pt (ds:=[EB m ps]) rfl e).trans rfl];obtain rfl:m=(P.length:Int):=01
  have nn:b2 (λ_=>some D.non) (gR 3) JI [!.lst (ns.map D.int),!EB P.length ps,!.int P.length,!.lst (P.map JE),.o none<|QC C<|qM P,.un,.un,.un,.un,.un,.un,.un,.un,.un]>.bl false:=by
   refine qd rfl rfl ?_;change some (D.bl _)=_;rw[kG.mpr λd hd=>?_];let(p,_,rfl):=QA.mp hd;show CB
  show(zI<|UW (F':=λρ=>some<|Out.nx ρ) (by
   unfold sV;rw[JU (b:=false)<|qd (a:=.bl false) rfl nn rfl];rfl) rfl).trans (r13 (ps:=ps) #[H0,rfl,zLr hd J,#[rL,λq hq=>nomatch hq],by change 0<P.length;omega] 01 01 C hn _)
def law_is(C:Addr)(ns:L Int)(hn:ns.length<=63):B2 C [.lst<|ns.map D.int]>.bl true:=by
 let(m,PX,e1,h0,_,c0):=zQw ns;have O:zi [.lst<|ns.map D.int,.int 4]>(.int<|ns.getD 4 0):=Si 02;refine Sk<|(zI (ρ':=[!.lst (ns.map D.int),!EB m PX,.un,.un,.un,.un,.un,.un,.un,.un,.un,.un,.un,.un])<|(zx e1).trans rfl).trans ?_;by_cases J:ns.getD 4 0%3=0
 .let(ps,h,_,(k,p,rfl,hp),U):=zN4 h0<|ns.getD 4 0/3;have hf:cN (PX.set k p):=λe h=>JA (zO5 e h PX k p) (by have:=c0 e h;omega)
  refine(zI (ρ':=[!.lst (ns.map D.int),!EB m (PX.set k p),.un,.un,.un,.un,.un,.un,.un,.un,.un,.un,.un,.un]) ?_).trans (rest h hf C ns hn)
  exists 0,O,J,U,beq_self_eq_true,RY,KA,wB
 .have hf:cN PX:=λe h=>JA (c0 e h) 02
  have z:(ns.getD 4 0%3==0)=false:=beq_eq_false_iff_ne.mpr J;refine(zI (ρ':=[!.lst (ns.map D.int),!EB m PX,.un,.un,.un,.un,.un,.un,.un,.un,.un,.un,.un,.un]) ?_).trans (rest h0 hf C ns hn)
  exists 0,O,z,beq_self_eq_true,RY,KA,wB
end K04
namespace K05
open PySem PySem.Spec PyProof.Rows L2 RD LG K04
structure Bx where
 P:F6
 w:F9
 K:Fg
 mg:AF
 base:Heap
 C:Addr
 κ:Nat->Addr
structure rK(b:Bx):Prop where
 g:∀{i x},gs.lookup i>x->∃f fd,XJ b.K x x (top i) f fd/\b.mg x>.ref f
 m:∀{i x q},ms.lookup i>(x,q)->∃f fd,XJ b.K x q (hm i) f fd/\YW b.K b.C x f
 z:∀{x},zs.contains x=true->b.mg x=none
 c:TH b.K b.C
 a0:ye b.K b.C "parts"
 a1:ye b.K b.C "at"
 a2:ye b.K b.C "rows"
 a3:ye b.K b.C "past"
 e0:OU b.K (b.κ 0)
 e1:OU b.K (b.κ 1)
 h0:b.mg "NoPart" = some (.ref<|b.κ 0)
 h1:b.mg "NoMove" = some (.ref<|b.κ 1)
 h2:b.mg "ReelError" = some (.ref<|b.κ 2)
 hH:b.mg "Hall" = some (.ref b.C)
 x3:X3 b.K (b.κ 1) (b.κ 2) (b.κ 0)
 k:∀{f},YW b.K b.C "__init__" f->Mk b.K b.C f
abbrev Z{b:Bx}(_:rK b){α:Type}(f:F6->F9->Fg->(Str->Op F3)->Heap->α):α:=f b.P b.w b.K b.mg b.base
section
variable {b:Bx}{X:Cx}
def mz{x:Str}(S:rK b)(e:X.mg=b.mg)(h:zs.contains x=true):X.mg x=none:=e ▸ S.z h
def m0(S:rK b)(e:X.mg=b.mg):X.mg "NoPart" = some (.ref<|b.κ 0):=e ▸ S.h0
def m1(S:rK b)(e:X.mg=b.mg):X.mg "NoMove" = some (.ref<|b.κ 1):=e ▸ S.h1
def m2(S:rK b)(e:X.mg=b.mg):X.mg "ReelError" = some (.ref<|b.κ 2):=e ▸ S.h2
def mH(S:rK b)(e:X.mg=b.mg):X.mg "Hall" = some (.ref b.C):=e ▸ S.hH
def zYf:XR X [] (λ_=>some true):=.inl #[rfl,rfl]
def zYg{c:Expr}{p:QE}(h:SB X c p):XR X [c] p:=.inr #[_,rfl,h]
def nsl{i:Expr}(h:∀J z,et i false J z=operate [J,z] (br J z)):yo i:=h
def Jy{nm:L Str}{sc:oE}{C:Addr}{s:F2}{H:Hp}{ex:L Addr}(h:decide (RW X.N nm).Nodup=true):(zT X nm sc C s H ex).N.Nodup:=of_decide_eq_true h
def lc{sc:oE}{x:Str}(h:(sc.names.lookup x==some .local || sc.names.lookup x==some .cell)=true):L2.Loc sc x:=by
 simpa[L2.Loc] using h
def vs_{sc:oE}{x:Str}(h:(sc.names.lookup x==some .local || (sc.names.lookup x==some .cell || sc.names.lookup x==some .free))=true):xX sc x:=by
 simpa[xX] using h
def fl_{x:Str}(h:(X.fn x || X.env.scope.names.lookup x==some .local)=true):aM X x:=by
 simpa[aM] using h
def YY(n:Nat):=(n.rec (λP=>P []) λ_ ih P=>∀a,ih λl=>P (a::l):(L F3->Prop)->Prop)
def nZ{n:Nat}{P:L F3->Prop}(h:YY n P)(us:L F3)(e:us.length=n):P us:=by
 induction n generalizing P us with
 |zero=>cases us with
  |nil=>show h
  |cons=>cases e
 |succ n ih=>cases us with
  |nil=>cases e
  |cons a l=>show ih (h a) l<|Nat.succ.inj e
abbrev Bd(x q:Str)(st:Stmt)(ps:L Str):Prop:=∀(kV doc pm:F3)(an:Op Addr)(bE ct:F3),YY ps.length λus=>Uv (fE x q (YX st) (yI st) (zH st) .none kV doc pm an bE ct) #[us,[]]=pure (ps.zip us)
abbrev Sc(N ps:L Str)(sc:oE):Prop:=sc.kind=.function/\sc.isCoroutine=false/\sc.isGenerator=false/\N.Nodup/\N.take ps.length=ps/\(∀x∈ps,sc.names.lookup x>.local\/sc.names.lookup x>.cell)/\∀y∈sc.names,y.2≠.free
def Uo{N ps:L Str}{sc:oE}(h:decide (Sc N ps sc)=true):yA N ps sc:=by
 let(a,b,c,d,e,f,g):=of_decide_eq_true h;show#[a,b,c,d,e,f,g]
def dm{x:Str}{CX:YN}{k:Nat}{sp:Sp}(i n:Nat)(S:rK b)(N:L Str)(h:∀{f fd},XJ b.K x x (top i) f fd->yA N (N.take n) (zH<|top i)->Z S PH CX k f fd (N.take n) sp)(hi:gs.lookup i>x:=by kernel_rfl)
  (s:decide (Sc N (N.take n)<|zH<|top i)=true:=by kernel_rfl) (hb:Bd x x (top i) (N.take n):=by(repeat intro _);show rfl):Z S Df CX k x sp:=by
 let(f,fd,F,e):=S.g hi;show#[f,fd,_,h F<|Uo s,e,F.kp,F.binds λ_ _ _ _ _ _=>nZ<|hb ..]
def mm{x q:Str}{CX:YN}{k:Nat}{sp:Sp}(i n:Nat)(S:rK b)(hi:ms.lookup i>(x,q))(N:L Str)(h:∀{f fd},XJ b.K x q (hm i) f fd->yA N (N.take n) (zH<|hm i)->Z S PH CX k f fd (N.take n) sp)
  (s:decide (Sc N (N.take n)<|zH<|hm i)=true:=by kernel_rfl) (hb:Bd x q (hm i) (N.take n):=by(repeat intro _);show rfl):Z S Mt CX b.C k x sp:=by
 let(f,fd,F,e):=S.m hi;show#[f,fd,_,h F<|Uo s,e,F.binds λ_ _ _ _ _ _=>nZ<|hb ..]
local macro_rules|`(tactic|symm)=>do let h←`(_);let f:=fun (s:String)=>(s.splitOn " ").toArray.map fun s=>(let l:=s.splitOn "/"; let n:=(l.head!.splitOn ",").map fun s=>(⟨Lean.mkIdent s.toName⟩:Lean.Term); Lean.Syntax.mkApp n.head! (n.tail++List.replicate l.getLast!.toNat! h).toArray);let e:=f "mz/3 m0/2 m1/2 m2/2 mH/2";let b:=f "pZ/0 rZ/0 zXF/0 sZ/0 zXD/0 Cn/0 zTT/0";let p:=f "zWY/0 zWa/0 zWZ/0 zRl/0 zS4/2 zWn/2 B4/3 C4/3 zPb/3 zWk/2 D4/2 zWj/1 zWl/1 zUt/1 zW8/1 zXR/5 zPi/8 zQb/8 zTj/10 zPx/6 zUZ/2 zXl/3 zXK/12 A4/4 zXU/5 zWb/4 zQL/8 zTQ/6 zUe/5 zTv/5 zNE/9 zQk/2 zTh/1 zP8/3 zPQ/1 Pc,zMl/9 Pc,zM5/9 Pc,zM6/9 vz,zMm/9 vz,zMo/9";let u:=f "pv/5 vs_/1 zWm/0 zS7/3 JC/1 fl_/1 lc/1 nsl/1";let t:=f "zS5/2 zXQ/5 J4/2 zTo/9 zP3/5 zWX/1";let q:=f "zQc/8 zT7/10 zUa/2 zWo/2 zXA/2 zT9/10 zQJ/15 zPc/3 zPo/7 zNM/7 zLd/10 zPT,zLK/9 zMc,zMn/9";let r:=f "zLZ/16 zI3/16 zWu/7 zTB/7 zTt/14 zUr/15 zLO/6 zPh/8 zWx/5 zTY/6 zP9/6 zQA/5 zTn/11 zP2/6 zUl/8 zXH/10 zQg/6 zQh/5 zTz/9 zTx/6 zQG/13 zXO/7";let s:=f "zMx/9 zQo/10 zM2/9 zTl/12 zP4/17 zUD/9 zTr/11 zTq/20 zTp/14 zQi/12 zQj/11 zTg/2";let a:=f "zWq/0 zS9/2 zWs/2 zWr/1 zTe/2 zXM/1 zXN/1 gl/1 zTC/5 zWw/4 zUX/0 b4/4 j4/3 zWg/1 v4/4 zW4/4 zXG/5 zTw/5 zXZ/3 zWc/4 zWi/2 Ky/1 zTJ/0 zW1/1 zPa/0 zW6/0 zW7/0 zTH/0 zW5/0 zTM/0 zTL/0 zW2/1 zTK/0 zW0/1 zTF/1 zMe/4 zMf/5 zTS/5 zUc/2 zMd/2 zWt/1 zTs/2 zT5/1 zT4/1 zQC/2 P4/3 zUk/12 zWy/6 zPW/4 zTA/0 zQB/0 zQl/39 zQH/26 Z4/3 zPu/8 zPs/4 b5/1 zTD/0 zTO/0 zTP/1 zWf/2 Y4/2 zS6/1 zWe/1 zPU/3 zM9/9 zP7/9 zP5/3 zT1/3 zUq/1 Y3/4 Z3/3 zPe/1 zPf/1 zMs/2 zMr/0 zYf/0 zYg/1 M2.mk/4 Qp/1 zUs/0 zWZ/0";let c:=f "rK.c,S/0 rK.a0,S/0 rK.a1,S/0 rK.a2,S/0 rK.a3,S/0 rK.e0,S/0 rK.e1,S/0 rK.x3,S/0 LO,S/0 nN,S/0 uK,S/0 ZI,S/0 tN,S/0 wK,S/0 sN,S/0 XI,S/0 oM,S/0 EL,S/0 KO,S/0 xK,S/0 CL,S/0 fS,S/0 GO,S/0 WF,S/0 lN,S/0 JJ,S/0 aJ,S/0 MO,S/0 pN,S/0 vN,S/0 JO,S/0 mQ,S/0 BV,S/0 KZ,S/0 uN,S/0 iS,S/0 rM,S/0 sM,S/0 DL,S/0 nM,S/0 uM,S/0 pM,S/0 tM,S/0 rN,S/0 YI,S/0 lQ,S/0 mN,S/0 tK,S/0 gS,S/0 Hz,S/0 AV,S/0 vK,S/0 zM9/9 Jg/1 Y0/1 PassesOwn.never/0 zLY/0 zTc/0";let d:=("qv yu i6 v7 Dw Dx A7 zh z6 yC yX qO qX z8 Ar qP ya qS qU Xv Xw Yb Yc B6 zk zy Bg Az yG CW j6 Rg Rh Am An Ao As Au Mr qR Mq Ba Bb zW qJ Mg Qv Bt qp Al Ys r8 Et Su o7 Ce kY U6 Og kg Um Bf qI qZ Bq Bc Y6 Bw Aj Bh Ny Bj By Ap Bk Np Ay yv Ya Yx Nd Nm Dv Bv Mh Oh zU Fq Nr Qa Mm Mp qW qY qQ qN qy qK zKx Dd Qb De zKy Qc Dg Dy Ri Rj Mu Mw Mx qo Yk Mj Ml Yl yf yg Zc qr Me yh yi qt yj yk Mf Zd qG yM qH Aw yx VX yY yz yQ yD X6".splitOn " ").toArray.map fun s=>Lean.mkIdent s.toName;`(tactic|(delta $d:ident*;intros;change oK _ (_::_) _;repeat' first|((with_reducible change _=_);first|(with_reducible first|(change Cx.mg _ _=_;first $[|refine' $e]*)|(change oB _=_;first $[|refine' $b]*)|refine' rK.h0 _|refine' rK.h1 _)|exact rfl|kernel_rfl)|(with_reducible first|(change SE _ _ _;first $[|refine' $p]*) $[|refine' $u]*|(change SR _ _ _;first $[|refine' $t]*)|(change SF _ _ _;first $[|refine' $q]*)|(change PS _ (.Assign ..) _;first $[|refine' $r]*)|(change PS _ (.Expr ..) _;first $[|refine' $s]*)|(change List.Nodup _;first|refine' Jy _|(with_unfolding_all refine' yA.nd _)))|((with_reducible change qB _ _);first|assumption|refine' qB.mono _ _)|(with_reducible first $[|refine' $a]*)|(change (_:Prop);first|with_reducible intro _|assumption $[|refine' $c]*|exact rfl|kernel_rfl|decide)))
variable (S:rK b)
def LO:Z S eK 1 "_law_mix" 3 zK:=dm 23 3 S wt λF s=>bK F s (by symm) λ_ _ _ h=>h
def nN:Z S eK 1 "_law_cell" 2 zi:=dm 22 2 S jq λF s=>bK F s (by symm) λ_ _ _ h=>h
def uK:Z S eK 1 "_law_is_late" 2 yW:=dm 25 2 S Yv λF s=>bK F s (by symm) λ_ _ _ h=>h
def ZI:Z S eK 1 "_law_told_late" 5 qF:=dm 27 5 S Xz λF s=>bK F s (by symm) λ_ _ _ h=>h
def tN:Z S eK 2 "_law_word" 2 yV:=dm 24 2 S jr λF s=>bK F s (by symm) λ_ _ _ h=>h
def wK:Z S eK 3 "_law_told_on" 4 Ak:=dm 28 4 S Yw λF s=>bK F s (by symm) λ_ _ _ h=>h
def sN:Z S eK 2 "_law_size" 2 Br:=dm 26 2 S jt λF s=>bK F s (by symm) λ_ _ _ h=>h
def XI:Z S eK 3 "_law_apart_two" 4 yN:=dm 29 4 S Yd λF s=>bK F s (by symm) λ_ _ _ h=>h
def oM:Z S eK 4 "_law_dance" 1 Be:=dm 30 1 S Zi λF s=>bK F s (by symm) λ_ _ _ h=>h
def EL:Z S eK 1 "takes_part" 2 qu:=dm 8 2 S Yt λF s=>bK F s (by symm) λ_ _ _ h=>h
def KO:Z S eK 2 "is_turn" 2 Cd:=dm 11 2 S xh λF s=>bK F s (by symm) λ_ _ _ h=>h
def xK:Z S eK 3 "turns_among" 3 yZ:=dm 12 3 S Yy λF s=>bK F s (by symm) λ_ _ _ h=>h
def CL:Z S eK 1 "choices_of" 1 Ax:=dm 6 1 S Yr λF s=>bK F s (by symm) λ_ _ _ h=>h
def fS:Z S eK 2 "apart" 3 GP:=dm 9 3 S zN0 λF s=>bK F s (by symm) λ_ _ _ h=>h
def GO:Z S UR 4 "in_vain" 2 WX:=dm 16 2 S xj λF s=>Sb F s (by symm) λ_ _ _ h=>h
def WF:Z S zXV b.κ 1 "refuse_waiting_in_vain" 4 za:=dm 17 4 S yy λF s=>zT2 F s (by symm) λa _ _ _ _ h=>yU h a
def lN:Z S eK 1 "asked_at" 2 UX:=dm 13 2 S jx λF s=>bK F s (by symm) λ_ _ _ h=>h
def JJ:Z S bV b.κ 2 "asked_at_all" 2 zt:=dm 14 2 S Ym λF s=>zRu F s (by symm) λ_ _ _ h=>h
def aJ:Z S UR 2 "nexts_by_word" 1 qL:=dm 15 1 S Xx λF s=>Sb F s (by symm) λ_ _ _ h=>h
def MO:Z S bV b.κ 5 "part_of" 2 yR:=dm 18 2 S xk λF s=>zRu F s (by symm) λ_ _ _ h=>h
def zVk:Z S Mt (EJ b.P b.w) b.C 6 "__init__" (FY b.K b.κ (KW b.C) 2):=mm 0 2 S rfl zSH λF s=>zT8 F s (by symm) λa _ _ _ _ h=>yU h a
def zYh:∃f fd ps,Mk b.K b.C f/\Z S PH (EJ b.P b.w) 6 f fd ps (FY b.K b.κ (KW b.C) 2)/\L2.RO b.K fd ps []:=by
 let(f,fd,ps,h,m,j):=zVk S;show#[f,fd,ps,S.k m,h,j]
def pN:Z S UR 8 "_law_hall" 1 (D6 b.C):=by
 let(_,_,_,_,_,_):=zYh S;show dm 37 1 S km λF s=>Sb F s (by symm) λ_ _ _ h=>h
def vN:Z S WS b.C 1 "state_of" 2 (qg b.C):=mm 3 2 S rfl kh λF s=>JW F s (by symm) λa _ _ _ _ h=>yU h a
def JO:Z S WS b.C 2 "is_over" 1 (On b.C):=mm 10 1 S rfl zIa λF s=>JW F s (by symm) λa _ _ _ _ h=>yU h a
def mQ:Z S WS b.C 1 "states" 1 (Da b.C):=mm 1 1 S rfl zKt λF s=>JW F s (by symm) λa _ _ _ _ h=>yU h a
def BV:Z S WS b.C 1 "done" 1 (Eo b.C):=mm 9 1 S rfl zSI λF s=>JW F s (by symm) λa _ _ _ _ h=>yU h a
def KZ:Z S WS b.C 1 "row" 3 (xY b.C):=mm 2 3 S rfl zX6 λF s=>JW F s (by symm) λa _ _ _ _ h=>yU h a
def uN:Z S zXX b.C 2 "moves_of" 2 (Nt b.C):=mm 4 2 S rfl kj λF s=>zT6 F s (by symm) λa _ _ _ _ h=>yU h a
def iS:Z S WS b.C 3 "moves" 1 (m7 b.C):=mm 5 1 S rfl zOR λF s=>JW F s (by symm) λa _ _ _ _ h=>yU h a
def rM:Z S eX 1 "_law_moves" 4 yF:=dm 38 4 S jh λF s=>Eh F s (by symm) λ_ _ h=>Cs h
def sM:Z S eX 4 "_law_shows" 6 (qi b.C):=dm 40 6 S jj λF s=>Eh F s (by symm) λ_ _ h=>Cs h
def DL:Z S eK 2 "_law_spoilt" 2 qw:=dm 31 2 S Zj λF s=>bK F s (by symm) λ_ _ _ h=>h
def nM:Z S eK 1 "_law_apart" 3 yt:=dm 32 3 S Zy λF s=>bK F s (by symm) λ_ _ _ h=>h
def uM:Z S eK 1 "_law_turns" 3 qh:=dm 34 3 S jc λF s=>bK F s (by symm) λ_ _ _ h=>h
def pM:Z S eK 1 "_law_kinds" 3 Nf:=dm 33 3 S jd λF s=>bK F s (by symm) λ_ _ _ h=>h
def tM:Z S TR 2 "_law_state" 4 Bi:=dm 35 4 S jf λF s=>zR0 F s (by symm) zKH
def rN:Z S eK 3 "_law_part" 2 E6:=dm 36 2 S vc λF s=>bK F s (by symm) λ_ _ _ h=>h
def YI:Z S eX 1 "_law_bad_moves" 4 yT:=dm 41 4 S Yh λF s=>Eh F s (by symm) λ_ _ h=>Cs h
def lQ:Z S TR 1 "_law_do" 4 Dc:=dm 42 4 S zKw λF s=>zR0 F s (by symm) zKH
def mN:Z S eK 1 "is_whole" 1 Bu:=dm 5 1 S kc λF s=>bK F s (by symm) λ_ _ _ h=>h
def tK:Z S WS b.C 4 "can_be_done" 2 (yE b.C):=mm 6 2 S rfl Yz λF s=>JW F s (by symm) λa _ _ _ _ h=>yU h a
def gS:Z S VR b.C 2 "go_on" 3 (HS b.C):=mm 8 3 S rfl zOS λF s=>zRv F s (by symm) λa _ _ _ _ h=>yU h a
def Hz:Z S VR b.C 5 "do" 2 (cW b.C):=mm 7 2 S rfl E2 λF s=>zRv F s (by symm) λa _ _ _ _ h=>yU h a
def AV:Z S Ud b.κ b.C 5 "do" 2 (Eu b.C):=mm 7 2 S rfl zSP λF s=>zUg F s (by symm) λa _ _ _ _ h=>yU h a
def vK:Z S eX 6 "_law_refused" 2 (Aq b.C):=dm 39 2 S Ze λF s=>Eh F s (by symm) λ_ _ h=>Cs h
noncomputable def AY(ds:L D):Op D:=by
 classical show if ∃ns:L Int,ds=[.lst<|ns.map D.int]/\ns.length<=63 then some (.bl true) else none
def JZ{f:Addr}{fd:K5}(F:XJ b.K "law" "law" (top 43) f fd):Z S PH SH 9 f fd ["_law_script"] (kU b.K AY 1):=by
 have s:yA zYP ["_law_script"] (zH<|top 43):=Uo (by kernel_rfl);refine bK F s (F:=Um b.C) (by symm) λds d _ h=>?_
 unfold AY at h;split at h
 .rename_i q;let(ns,rfl,hl):=q;cases h;show law_is b.C ns hl
 .cases h
end
end K05
namespace K05
open PySem PySem.Spec PyProof.Rows L2 RD LG K04
def BY.fn{K:Fg}{f:Addr}{x q:Str}{st:Stmt}(h:BY K f x q st):∃fd,XJ K x q st f fd:=by
 cases h with
 |mk l c k=>show#[_,zWW l c k]
def Gs.get{K:Fg}{l:L (Nat×Str)}(h:Gs K l):∀{i x},l.lookup i>x->∃f,gE K K4 x>(some<|.ref f)/\BY K f x x (top i):=by
 induction h with
 |nil=>showλe=>nomatch e
 |cons a p t ih=>
  intro i x e;unfold VC at e;split at e
  .rename_i q;cases e;cases eq_of_beq q;show#[_,a,p]
  .show ih e
def Ms.get{K:Fg}{C:Addr}{l:L (Nat×Str×Str)}(h:Ms K C l):∀{i x q},l.lookup i>(x,q)->∃f,jB K (.ref C) x>(some<|.ref f)/\wG K (.ref f)=true/\BY K f x q (hm i):=by
 induction h with
 |nil=>showλe=>nomatch e
 |cons a n p t ih=>
  intro i x q e;unfold VC at e;split at e
  .rename_i q;cases e;cases eq_of_beq q;show#[_,a,n,p]
  .show ih e
def Zs.get{K:Fg}{l:L Str}(h:Zs K l):∀{x},l.contains x=true->gE K K4 x>none:=by
 induction h with
 |nil=>showλe=>nomatch e
 |cons a t ih=>
  intro x e;rw[List.contains_cons,bH]at e;rcases e with e|e
  .cases eq_of_beq e;show a
  .show ih e
def rV{l:nJ}{w:F9}{K:Fg}{h:Heap}{mg:AF}{fa:Addr}(X:K.In h)(G:h.Ns K4 mg)(J:mg "law" = some (.ref fa))(hF:zRa K)
  : ∃fd:K5,(∀(s:F2)(v:F3),VM s fd #[[v],[]] [("_law_script",v)])/\∀base:Heap,K.In base->base.Ns K4 mg->PH l.prog w K mg base SH 9 fa fd ["_law_script"] (kU K AY 1):=by
 refine hF _ @λC np nv re aH aN aV aR g m z q1 q2 q3 q4 q5 q6 q7 fO Y2 U O q8 x1 x2 x3 x4 x5 x6 x7 x8 x9 y0 y1 y2 y3 y4 y5 y6 y7=>?_
 have S:∀base,rK #[l.prog,w,K,mg,base,C,λi=>[np,nv].getD i re]:=λbase=>#[λe=>by
   let(f,a,p):=g.get e;let(fd,F):=p.fn;show#[f,fd,F,ZF X G a],λe=>by
   let(f,a,n,p):=m.get e;let(fd,F):=p.fn;show#[f,fd,F,a,n,F.kp],λe=>PySem.W.mg_none_of X G<|z.get e,#[q1,q2,q3,q4],fO,Y2,U,O,q7,q8,ZF X G aN,ZF X G aV,ZF X G aR,ZF X G aH,#[#[x1,x2,x3,x4,x5],x6,x7,x8,x9,y0,‹y1›,y2,y3,y4,y5,y6,y7],λm=>#[q5,m.at_,m.fn,q6]]
 let(f,fd,F,e):=(S h).g (i:=43) rfl;cases J.symm.trans e;refine#[fd,?_,λbase _ _=>JZ (S base) F];let(oc,od,kV,doc,pm,an,bE,ct,dO,rfl,_):=F.ex
 showλs v=>.of_eq rfl
def walk{l:nJ}{q:F6}{J:L Str}{Y:(Str->Op F3)->Heap->Prop}{O:F9->Heap->Prop}{d:Up}{K:Params->Fg}(hn:l.most>63)(U:d.params.defaults=[])
  (hY:∀(w:F9)(h:Heap),O w h->(K w.params).In h)
  (F:∀(w:F9)(mg:AF)(fa:Addr)(h:Heap),(K w.params).In h->h.Ns K4 mg->mg d.name>.ref fa ->
   ∃fd:K5,(∀(s:F2)(u:F3),VM s fd #[[u],[]] [("_law_script",u)])/\∀base:Heap,(K w.params).In base->base.Ns K4 mg->PH l.prog w (K w.params) mg base SH 9 fa fd ["_law_script"] (kU (K w.params) AY 1)) :
  SK q J Y O l.row.toRowW d [] (λf vs=>TK f vs):=
 L2.zMY (n:=63) (k:=9) (x:="_law_script") (CX:=λ_=>SH) (sp:=λw=>kU (K w.params) AY 1) hn 02 U #[rfl,02,02,rfl] hY F (λw H a ns hl _ hS=>by
  refine#[H,[.lst<|ns.map D.int],.bl true,zO.refl _,EA.cons (qD.mpr #[a,_,rfl,hS,EA.ints ns]) EA.nil,rfl,?_,λv G' H' _ r=>zb.mp r];unfold AY;show if_pos #[ns,rfl,hl]) λ_ _ _ _ _ z=>z
end K05
end
open PySem PySem.W PyProof.Rows
theorem PySem.Challenge.cw_reelhall_k05_halls_by_hand_holds : PySem.Challenge.rw_reelhall_k05_halls_by_hand.Holds :=
 K05.WZ λHV hdn hY hF=>K05.walk (l:=sX) rfl HV hY λw mg fa h KX G L0=>K05.rV KX G (hdn ▸ L0)<|hF w
