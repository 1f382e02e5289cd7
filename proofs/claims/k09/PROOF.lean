import PyProof.Rows.All
import Wide.All
import OpenK.AllK
import Wide.FinOn
import Lean
import PyProof.EqAt
import PyProof.EqKinds
import PyProof.TupleCall
import PyProof.NeKinds
import PyProof.Rows.SortStr
import PyProof.Rows.SortWalk
import KE.KDictOf
import PyProof.AttrMissSeq
import KE.KDictSum
import PyProof.ListMulRoad
import PyProof.FactsAll.tuple_2
import OpenK.KRaise
import PyProof.ExcClass3
import PyProof.StationsW
import PyProof.PassesOwn
import PyProof.ExcBaseAll.ValueError
import OpenK.KOwn
import KE.KDictLaws
import PyProof.DictFindH
import PyProof.DictRoadsH
import PyProof.Rows.TupDisplay
import PySem.Challenge.RW_reelhall_k09_whole_either_order
set_option Elab.async false
set_option linter.all false
set_option maxRecDepth 100000
set_option maxHeartbeats 8000000
set_option bootstrap.genMatcherCode false
noncomputable section
def zUX:=@Option.bind_eq_some_iff
def zUY:=@List.mem_cons_of_mem
def zUZ:=@Option.map_eq_some_iff
def zUa:=@List.length_cons
def zUb:=@Option.bind_some
def zUc:=@List.map_cons
def zUd:=@List.mem_cons_self
def zUe:=@PySem.wpAny_bind
def zUf:=@List.mem_singleton
def zUg:=@List.mem_cons
def zUh:=@List.size_toArray
def zUi:=@List.length_map
def zUj:=@List.mem_append
def zUk:=@PySem.Heap.get?_push_of_some
def zUl:=@PySem.wpAny_pure
def zUm:=@Nat.lt_of_lt_of_le
def zUn:=@Nat.le_refl
def zUo:=@PySem.Heap.lt_size
def zUp:=@if_pos
def zUq:=@List.length_nil
def zUr:=@List.length_append
def zUs:=@List.getElem?_eq_some_iff
def zUt:=@List.mem_append_right
def zUu:=@List.pairwise_cons
def zUv:=@List.getElem?_cons_zero
def zUw:=@List.map_append
def zUx:=@Option.map_some
def zUy:=@List.lookup_cons
def zUz:=@beq_self_eq_true
def zU0:=@Nat.ne_of_lt
def zU1:=@PySem.W.mg_of
def zU2:=@List.getElem?_set_ne
def zU3:=@List.mem_of_getElem?
def zU4:=@PySem.Heap.get?_push_size
def zU5:=@List.getElem?_append_left
def zU6:=@List.mem_filterMap
def zU7:=@Bool.false_ne_true
def zU8:=@List.getElem?_append_right
def zU9:=@List.find?_cons
def zVA:=@List.mem_map
def zVB:=@List.getElem?_cons_succ
def zVC:=@List.nodup_cons
def zVD:=@if_neg
def zVE:=@List.length_singleton
def zVF:=@Nat.le_trans
def zVG:=@List.getElem?_set_self
def zVH:=@decide_eq_false
def zVI:=@List.flatMap_cons
def zVJ:=@beq_eq_false_iff_ne
def zVK:=@List.getElem?_map
def zVL:=@PySem.boot_len
def zVM:=@PySem.wpAny_mono
def zVN:=@Bool.false_eq_true
def zVO:=@PySem.W.mg_none_of
def zVP:=@List.append_nil
def zVQ:=@PySem.PassesOwn.never
def zVR:=@Bool.and_eq_true
def zVS:=@List.nodup_append
def zVT:=@List.getElem?_replicate
def zVU:=@if_true
def zVV:=@List.mem_append_left
def zVW:=@Int.natCast_one
def zVX:=@congrArg
def zVY:=@Option.some.inj
def zVZ:=@List.append_assoc
def zVa:=@List.map_map
def zVb:=@PySem.F.slot_dict_setdefault
def zVc:=@List.map_congr_left
def zVd:=@List.cons_append
def zVe:=@Int.toNat_one
def zVf:=@PySem.F.plainAttrs_list
def zVg:=@if_false
def zVh:=@List.nil_append
def zVi:=@List.range_one
def zVj:=@PySem.mem_of_lookup
def zVk:=@decide_eq_true
def zVl:=@List.cons.injEq
def zVm:=@List.filterMap_cons
def zVn:=@List.filter_eq_self
def zVo:=@PyProof.Rows.slot_tuple_getitem
def zVp:=@Nat.lt_irrefl
def zVq:=@List.map_nil
def zVr:=@List.mem_filter
def zVs:=@PySem.F.args_dict_setdefault_3
def zVt:=@List.set_cons_zero
def zVu:=@PySem.tupleKind_room_in1
def zVv:=@List.mem_flatMap
def zVw:=@PySem.F.entry_dict_setdefault
def zVx:=@PySem.W.hideAll_none
def zVy:=@List.mem_range
def zVz:=@PySem.wpAny_truthy_bool
def zV0:=@PyProof.Rows.callWith_type1
def zV1:=@PySem.W.hideAll_get
def zV2:=@Int.emod_lt_of_pos
def zV3:=@List.any_cons
def zV4:=@decide_false
def zV5:=@PySem.wpAny_holding
def zV6:=@List.drop_eq_getElem_cons
def zV7:=@Nat.zero_le
def zV8:=@List.mem_iff_getElem
def zV9:=@Int.emod_nonneg
def zWA:=@PySem.F.slot_list_append
def zWB:=@PySem.F.type_list_append
def zWC:=@decide_eq_true_eq
def zWD:=@PySem.wpAny_passesOwn
def zWE:=@PySem.sizeLine_eq
def zWF:=@List.getElem_mem
def zWG:=@PySem.Heap.get?_update_other
def zWH:=@List.mem_replicate
def zWI:=@PySem.wpAny_Call_Name_kw
def zWJ:=@Bool.beq_eq_decide_eq
def zWK:=@List.foldl_cons
def zWL:=@PySem.W.kia_one
def zWM:=@PySem.wpAny_execs_nil
def zWN:=@Option.some.injEq
def zWO:=@PySem.Paired.length
def zWP:=@beq_iff_eq
def zWQ:=@PySem.wpAny_newObj_type
def zWR:=@List.length_dropLast
def zWS:=@List.Perm.refl
def zWT:=@PySem.wpAny_is_plain
def zWU:=@List.all_eq_true
def zWV:=@Array.length_toList
def zWW:=@List.not_lt
def zWX:=@PySem.F.args_tuple_add_2
def zWY:=@PySem.wpAny_comprehension_free
def zWZ:=@PySem.wpAny_typeOf
def zWa:=@List.length_eq_zero_iff
def zWb:=@List.set_cons_succ
def zWc:=@PySem.F.entry_tuple_add
def zWd:=@PySem.F.plainAttrs_dict
def zWe:=@PySem.W.of_hideAll
def zWf:=@PySem.Calls.callWith_builtin
def zWg:=@PySem.F.slot_tuple_add
def zWh:=@PySem.W.funFrames_hide
def zWi:=@Int.toNat_natCast
def zWj:=@List.length_range
def zWk:=@Nat.le_succ
def zWl:=@PySem.atKey_none_of_get
def zWm:=@PySem.wpAny_field
def zWn:=@PySem.Heap.size_push
def zWo:=@Array.getElem?_toList
def zWp:=@PySem.Heap.get?_update_self
def zWq:=@Int.zero_add
def zWr:=@List.length_filter_le
def zWs:=@List.length_replicate
def zWt:=@PySem.F.slot_dict_get
def zWu:=@PySem.W.methodCall_KW
def zWv:=@PySem.call_meetsIn
def zWw:=@List.any_eq_true
def zWx:=@List.length_drop
def zWy:=@List.length_take
def zWz:=@List.take_length
def zW0:=@Nat.lt_succ_self
def zW1:=@decide_eq_decide
def zW2:=@Bool.or_false
def zW3:=@Bool.eq_iff_iff
def zW4:=@Bool.or_eq_true
def zW5:=@List.lookup_nil
def zW6:=@PySem.W.plainGet_of
def zW7:=@Nat.ne_of_gt
def zW8:=@PySem.W.callWith_K
abbrev Fg:=PySem.W.Frag
abbrev MGt:=PySem.Str->Option PySem.Value
abbrev PNt:=List (PySem.Addr×PySem.Obj)
abbrev VSt:=PySem.Value->PySem.Shared->Prop
namespace L2
open PySem
noncomputable def zCX (s:Stmt):Arguments:=match s with
 |.FunctionDef _ a _ _ _ _ _ _ _ _=>a
 |_=>{ posonlyargs:=[],args:=[],vararg:=none,kwonlyargs:=[],kw_defaults:=[],kwarg:=none,defaults:=[] }
noncomputable def yE (s:Stmt):List Stmt:=match s with
 |.FunctionDef _ _ b _ _ _ _ _ _ _=>b
 |_=>[]
noncomputable def zH (s:Stmt):Scope:=match s with
 |.FunctionDef _ _ _ _ _ _ sc _ _ _=>sc
 |_=>{ kind:=.function,names:=[],isGenerator:=false,isCoroutine:=false }
end L2
namespace K09
open PySem PySem.Spec PyProof.Rows L2
def top (i:Nat):Stmt:=PySem.Challenge.pw_reelhall_k09_whole_either_order.main.body.getD i (.Pass ⟨0,0,0,0⟩)
def zFU (j:Nat):Stmt->Stmt
 |.ClassDef _ _ _ body _ _ _ _ _ _ _=>body.getD j (.Pass ⟨0,0,0,0⟩)
 |s=>s
abbrev zEM:Stmt:=top 24
abbrev zDJ:Stmt:=top 23
abbrev zBI:Stmt:=top 26
abbrev zAK:Stmt:=top 28
abbrev zDK:Stmt:=top 25
abbrev zBJ:Stmt:=top 29
abbrev zDL:Stmt:=top 27
abbrev zAL:Stmt:=top 30
abbrev zCY:Stmt:=top 31
abbrev zBm:Stmt:=top 9
abbrev zEN:Stmt:=top 12
abbrev zBK:Stmt:=top 13
abbrev zBn:Stmt:=top 7
abbrev zIP:Stmt:=top 10
abbrev zEO:Stmt:=top 17
abbrev yY:Stmt:=top 18
abbrev zDM:Stmt:=top 14
abbrev zAs:Stmt:=top 15
abbrev zAM:Stmt:=top 16
abbrev zEP:Stmt:=top 19
abbrev zLD:Stmt:=zFU 0 (top 21)
abbrev zDN:Stmt:=top 33
abbrev zLE:Stmt:=zFU 9 (top 21)
abbrev zBo:Stmt:=top 32
abbrev zDO:Stmt:=zFU 3 (top 21)
abbrev zQC:Stmt:=zFU 2 (top 21)
abbrev zDP:Stmt:=zFU 4 (top 21)
abbrev zIQ:Stmt:=zFU 5 (top 21)
abbrev zDQ:Stmt:=top 6
abbrev zBL:Stmt:=zFU 6 (top 21)
abbrev zIR:Stmt:=zFU 8 (top 21)
abbrev s_do:Stmt:=zFU 7 (top 21)
abbrev zCZ:Stmt:=top 34
abbrev zGH:Stmt:=zFU 1 (top 21)
abbrev zBp:Stmt:=top 35
abbrev zGI:Stmt:=top 36
abbrev zBh (K:Fg) (f:Addr) (x q:Str) (st:Stmt):Prop:=∃ oc od kV dc pm an cd ct sl,K.lookup f=some ⟨oc,od,.func (PySem.W.fnOf x q (zCX st) (yE st) (zH st) .none kV dc pm an cd ct),sl⟩/\PySem.W.codeIn K cd q=true/\PySem.W.keepIn K (.ref f)=true
def zPV (K:Fg):Prop:=∀ P:Prop,(∀ {C np f0 f1 f2 f3 f4 f5 f6 f7 f8 f9 f10 f11 f12 f13 f14 f15 f16 f17 f18 f19 f20 f21 f22 f23 f24 f25 f26 f27 f28 f29 f30 f31 f32 f33 f34 f35:Addr}
  {odL anL:Option Addr} {slL:Array (Option Value)} {ocL kVL dcL pmL cdL ctL:Value}
  (aH:PySem.W.nsIn K mainGlobals "Hall" = some (some (.ref C))) (aN:PySem.W.nsIn K mainGlobals "NoPart" = some (some (.ref np)))
  (a0:PySem.W.nsIn K mainGlobals "_law_mix" = some (some (.ref f0))) (p0:zBh K f0 "_law_mix" "_law_mix" zEM)
  (a1:PySem.W.nsIn K mainGlobals "_law_cell" = some (some (.ref f1))) (p1:zBh K f1 "_law_cell" "_law_cell" zDJ)
  (a2:PySem.W.nsIn K mainGlobals "_law_is_late" = some (some (.ref f2))) (p2:zBh K f2 "_law_is_late" "_law_is_late" zBI)
  (a3:PySem.W.nsIn K mainGlobals "_law_told_late" = some (some (.ref f3))) (p3:zBh K f3 "_law_told_late" "_law_told_late" zAK)
  (a4:PySem.W.nsIn K mainGlobals "_law_word" = some (some (.ref f4))) (p4:zBh K f4 "_law_word" "_law_word" zDK)
  (a5:PySem.W.nsIn K mainGlobals "_law_told_on" = some (some (.ref f5))) (p5:zBh K f5 "_law_told_on" "_law_told_on" zBJ)
  (a6:PySem.W.nsIn K mainGlobals "_law_size" = some (some (.ref f6))) (p6:zBh K f6 "_law_size" "_law_size" zDL)
  (a7:PySem.W.nsIn K mainGlobals "_law_apart_two" = some (some (.ref f7))) (p7:zBh K f7 "_law_apart_two" "_law_apart_two" zAL)
  (a8:PySem.W.nsIn K mainGlobals "_law_dance" = some (some (.ref f8))) (p8:zBh K f8 "_law_dance" "_law_dance" zCY)
  (a9:PySem.W.nsIn K mainGlobals "takes_part" = some (some (.ref f9))) (p9:zBh K f9 "takes_part" "takes_part" zBm)
  (a10:PySem.W.nsIn K mainGlobals "is_turn" = some (some (.ref f10))) (p10:zBh K f10 "is_turn" "is_turn" zEN)
  (a11:PySem.W.nsIn K mainGlobals "turns_among" = some (some (.ref f11))) (p11:zBh K f11 "turns_among" "turns_among" zBK)
  (a12:PySem.W.nsIn K mainGlobals "choices_of" = some (some (.ref f12))) (p12:zBh K f12 "choices_of" "choices_of" zBn)
  (a13:PySem.W.nsIn K mainGlobals "apart" = some (some (.ref f13))) (p13:zBh K f13 "apart" "apart" zIP)
  (a14:PySem.W.nsIn K mainGlobals "in_vain" = some (some (.ref f14))) (p14:zBh K f14 "in_vain" "in_vain" zEO)
  (a15:PySem.W.nsIn K mainGlobals "refuse_waiting_in_vain" = some (some (.ref f15))) (p15:zBh K f15 "refuse_waiting_in_vain" "refuse_waiting_in_vain" yY)
  (a16:PySem.W.nsIn K mainGlobals "asked_at" = some (some (.ref f16))) (p16:zBh K f16 "asked_at" "asked_at" zDM)
  (a17:PySem.W.nsIn K mainGlobals "asked_at_all" = some (some (.ref f17))) (p17:zBh K f17 "asked_at_all" "asked_at_all" zAs)
  (a18:PySem.W.nsIn K mainGlobals "nexts_by_word" = some (some (.ref f18))) (p18:zBh K f18 "nexts_by_word" "nexts_by_word" zAM)
  (a19:PySem.W.nsIn K mainGlobals "part_of" = some (some (.ref f19))) (p19:zBh K f19 "part_of" "part_of" zEP)
  (a20:PySem.W.findIn K (.ref C) "__init__" = some (some (.ref f20))) (p20:zBh K f20 "__init__" "Hall.__init__" zLD)
  (k20:PySem.W.keepIn K (.ref f20)=true) (n20:PySem.W.isFn K (.ref f20)=true)
  (a21:PySem.W.nsIn K mainGlobals "_law_hall" = some (some (.ref f21))) (p21:zBh K f21 "_law_hall" "_law_hall" zDN)
  (a22:PySem.W.findIn K (.ref C) "done" = some (some (.ref f22))) (p22:zBh K f22 "done" "Hall.done" zLE)
  (k22:PySem.W.keepIn K (.ref f22)=true) (n22:PySem.W.isFn K (.ref f22)=true)
  (a23:PySem.W.nsIn K mainGlobals "_law_spoilt" = some (some (.ref f23))) (p23:zBh K f23 "_law_spoilt" "_law_spoilt" zBo)
  (a24:PySem.W.findIn K (.ref C) "state_of" = some (some (.ref f24))) (p24:zBh K f24 "state_of" "Hall.state_of" zDO)
  (k24:PySem.W.keepIn K (.ref f24)=true) (n24:PySem.W.isFn K (.ref f24)=true)
  (a25:PySem.W.findIn K (.ref C) "row" = some (some (.ref f25))) (p25:zBh K f25 "row" "Hall.row" zQC)
  (k25:PySem.W.keepIn K (.ref f25)=true) (n25:PySem.W.isFn K (.ref f25)=true)
  (a26:PySem.W.findIn K (.ref C) "moves_of" = some (some (.ref f26))) (p26:zBh K f26 "moves_of" "Hall.moves_of" zDP)
  (k26:PySem.W.keepIn K (.ref f26)=true) (n26:PySem.W.isFn K (.ref f26)=true)
  (a27:PySem.W.findIn K (.ref C) "moves" = some (some (.ref f27))) (p27:zBh K f27 "moves" "Hall.moves" zIQ)
  (k27:PySem.W.keepIn K (.ref f27)=true) (n27:PySem.W.isFn K (.ref f27)=true)
  (a28:PySem.W.nsIn K mainGlobals "is_whole" = some (some (.ref f28))) (p28:zBh K f28 "is_whole" "is_whole" zDQ)
  (a29:PySem.W.findIn K (.ref C) "can_be_done" = some (some (.ref f29))) (p29:zBh K f29 "can_be_done" "Hall.can_be_done" zBL)
  (k29:PySem.W.keepIn K (.ref f29)=true) (n29:PySem.W.isFn K (.ref f29)=true)
  (a30:PySem.W.findIn K (.ref C) "go_on" = some (some (.ref f30))) (p30:zBh K f30 "go_on" "Hall.go_on" zIR)
  (k30:PySem.W.keepIn K (.ref f30)=true) (n30:PySem.W.isFn K (.ref f30)=true)
  (a31:PySem.W.findIn K (.ref C) "do" = some (some (.ref f31))) (p31:zBh K f31 "do" "Hall.do" s_do)
  (k31:PySem.W.keepIn K (.ref f31)=true) (n31:PySem.W.isFn K (.ref f31)=true)
  (a32:PySem.W.nsIn K mainGlobals "_law_mover" = some (some (.ref f32))) (p32:zBh K f32 "_law_mover" "_law_mover" zCZ)
  (a33:PySem.W.findIn K (.ref C) "states" = some (some (.ref f33))) (p33:zBh K f33 "states" "Hall.states" zGH)
  (k33:PySem.W.keepIn K (.ref f33)=true) (n33:PySem.W.isFn K (.ref f33)=true)
  (a34:PySem.W.nsIn K mainGlobals "_law_behind" = some (some (.ref f34))) (p34:zBh K f34 "_law_behind" "_law_behind" zBp)
  (a35:PySem.W.nsIn K mainGlobals "law" = some (some (.ref f35))) (l35:K.lookup f35=some ⟨ocL,odL,.func (PySem.W.fnOf "law" "law" (zCX zGI) (yE zGI) (zH zGI) .none kVL dcL pmL anL cdL ctL),slL⟩) (c35:PySem.W.codeIn K cdL "law" = true) (k35:PySem.W.keepIn K (.ref f35)=true)
  (z_len:PySem.W.nsIn K mainGlobals "len" = some none)
  (z_range:PySem.W.nsIn K mainGlobals "range" = some none)
  (z_enumerate:PySem.W.nsIn K mainGlobals "enumerate" = some none)
  (z_sorted:PySem.W.nsIn K mainGlobals "sorted" = some none)
  (z_tuple:PySem.W.nsIn K mainGlobals "tuple" = some none)
  (z_list:PySem.W.nsIn K mainGlobals "list" = some none)
  (z_int:PySem.W.nsIn K mainGlobals "int" = some none)
  (z_dict:PySem.W.nsIn K mainGlobals "dict" = some none)
  (z_isinstance:PySem.W.nsIn K mainGlobals "isinstance" = some none)
  (z_all:PySem.W.nsIn K mainGlobals "all" = some none)
  (z_any:PySem.W.nsIn K mainGlobals "any" = some none)
  (z_str:PySem.W.nsIn K mainGlobals "str" = some none)
  (z_bool:PySem.W.nsIn K mainGlobals "bool" = some none)
  (q1:PySem.W.plainGet K C Str.empty=true)
  (q2:PySem.W.hasDictIn K C=true)
  (q3:PySem.W.plainOver K C=true)
  (q4:PySem.W.findIn K (.ref C) "__setattr__" = some (some (.builtin "object.__setattr__")))
  (q5:PySem.W.makesIn K C=true)
  (q6:PySem.W.keepIn K (.ref C)=true)
  (q7:PySem.W.excIn K np [.type "ValueError",.type "Exception",.type "BaseException",.type "object"] "ValueError.__new__" = true)
  (q_parts:PySem.W.findIn K (.ref C) "parts" = some none)
  (q_at:PySem.W.findIn K (.ref C) "at" = some none)
  (q_rows:PySem.W.findIn K (.ref C) "rows" = some none)
  (q_past:PySem.W.findIn K (.ref C) "past" = some none)
  ,P)->P
open PySem.W
local macro_rules | `(tactic| refine $h:ident $a1 $a2 $a3 $a4 $a5 $a6 $a7 $a8 ?$z:ident $r*) => do let r := r.pop.push (← `($(Lean.mkIdent `wkT) rfl rfl (fun _ _ Y => kIn_of Y) ?hf)); `(tactic| refine' $h $a1 $a2 $a3 $a4 $a5 $a6 $a7 $a8 ?hx $r*)
set_option maxHeartbeats 0 in
theorem headT (wkT:∀ {q:Program} {loose:List Str} {XP:(Str->Option Value)->Heap->Prop} {YP:World->Heap->Prop} {d:DefRec} {K:Params->Fg},d.params.defaults = []->d.name = "law"->(∀ (w:World) (h:Heap),YP w h->(K w.params).In h)->(∀ w:World,zPV (K w.params)) ->
  PySem.W.WalkO q loose XP YP PySem.Challenge.rw_reelhall_k09_whole_either_order.row.toRowW d [] (λf vs=>PySem.call f vs)):PySem.Challenge.rw_reelhall_k09_whole_either_order.Holds:=by
 w_on;o_law;k_head
 ·intro w;kernel_rfl
 (case hw=>w_witness2)
 k_fill
 intro w P k
 refine' k ?_ ?_ ?_ ?_ ?_ ?_ ?_ ?_ ?_ ?_ ?_ ?_ ?_ ?_ ?_ ?_ ?_ ?_ ?_ ?_ ?_ ?_ ?_ ?_ ?_ ?_ ?_ ?_ ?_ ?_ ?_ ?_ ?_ ?_ ?_ ?_ ?_ ?_ ?_ ?_ ?_ ?_ ?_ ?_ ?_ ?_ ?_ ?_ ?_ ?_ ?_ ?_ ?_ ?_ ?_ ?_ ?_ ?_ ?_ ?_ ?_ ?_ ?_ ?_ ?_ ?_ ?_ ?_ ?_ ?_ ?_ ?_ ?_ ?_ ?_ ?_ ?_ ?_ ?_ ?_ ?_ ?_ ?_ ?_ ?_ ?_ ?_ ?_ ?_ ?_ ?_ ?_ ?_ ?_ ?_ ?_ ?_ ?_ ?_ ?_ ?_ ?_ ?_ ?_ ?_ ?_ ?_ ?_ ?_ ?_ ?_ ?_ ?_ ?_ ?_ ?_ ?_ ?_ ?_ ?_
 all_goals try first|k_is|exact ⟨_,_,_,_,_,_,_,_,_,by k_is,by k_is,by k_is⟩|kernel_rfl
end K09
namespace L2
open PySem PySem.Spec PyProof.Rows
abbrev Key:=Sum Int Str
noncomputable def zIS:Key->Value->Bool
 |.inl k,v=>Value.isInt k v
 |.inr x,v=>Value.isStrOf x v
noncomputable def keyH (w:World):Key->Int
 |.inl k=>hashInt k
 |.inr x=>hashStr w x
theorem yU:∀ {k:Key} {v:Value},zIS k v=true->(∃ i t,k=Sum.inl i/\v=Value.int i t)\/(∃ x t,k=Sum.inr x/\v=Value.str x t)
 |.inl i,v,h=>by
  obtain ⟨t,e⟩:=Value.isInt_shape (k:=i) (v:=v) h
  exact .inl ⟨i,t,rfl,e⟩
 |.inr x,v,h=>by
  obtain ⟨t,e⟩:=Value.isStrOf_shape (x:=x) (v:=v) h
  exact .inr ⟨x,t,rfl,e⟩
theorem zLF (i:Int) (t:Tok):zIS (.inl i) (.int i t)=true:=by simp [zIS,Value.isInt]
theorem zLG (x:Str) (t:Tok):zIS (.inr x) (.str x t)=true:=by simp [zIS,Value.isStrOf]
theorem zSU (a b:Int):decide ((Sum.inl a:Key)=Sum.inl b)=(a == b):=by
 by_cases e:a=b
 ·subst e;simp
 ·have h:¬ (Sum.inl a:Key)=Sum.inl b:=λq=>e (Sum.inl.inj q)
  rw [zVH h]
  exact (zVJ.mpr e).symm
theorem zSV (a b:Str):decide ((Sum.inr a:Key)=Sum.inr b)=decide (a=b):=by
 by_cases e:a=b
 ·subst e;simp
 ·have h:¬ (Sum.inr a:Key)=Sum.inr b:=λq=>e (Sum.inr.inj q)
  rw [zVH h,zVH e]
theorem zSW (a:Int) (b:Str):decide ((Sum.inl a:Key)=Sum.inr b)=false:=zVH (λq=>nomatch q)
theorem zSX (a:Str) (b:Int):decide ((Sum.inr a:Key)=Sum.inl b)=false:=zVH (λq=>nomatch q)
noncomputable def zy (prog:Program) (w:World):PySem.KeyKind prog w Key where
 is:=zIS
 hash:=keyH w
 inj:=λv a b ha hb=>by
  rcases yU ha with ⟨i,t,rfl,rfl⟩|⟨x,t,rfl,rfl⟩
  ·rcases yU hb with ⟨j,u,rfl,e⟩|⟨y,u,rfl,e⟩
   ·injection e with e1 _;rw [e1]
   ·exact nomatch e
  ·rcases yU hb with ⟨j,u,rfl,e⟩|⟨y,u,rfl,e⟩
   ·exact nomatch e
   ·injection e with e1 _;rw [e1]
 byValue:=λk v h=>by
  rcases yU h with ⟨i,t,rfl,rfl⟩|⟨x,t,rfl,rfl⟩<;>rfl
 pyHash:=λhv h=>by
  rcases yU hv with ⟨i,t,rfl,rfl⟩|⟨x,t,rfl,rfl⟩
  ·exact wpAny_pyHash_int h
  ·exact wpAny_pyHash_str h
 eqBool:=λhu hv h=>by
  rcases yU hu with ⟨i,t,rfl,rfl⟩|⟨x,t,rfl,rfl⟩
  ·rcases yU hv with ⟨j,u,rfl,rfl⟩|⟨y,u,rfl,rfl⟩
   ·rw [zSU] at h;exact wpAny_eqBool_int h
   ·rw [zSW] at h;exact SeqAt.EqAt.int_str i t y u _ _ _ _ h
  ·rcases yU hv with ⟨j,u,rfl,rfl⟩|⟨y,u,rfl,rfl⟩
   ·rw [zSX] at h;exact SeqAt.EqAt.str_int x t j u _ _ _ _ h
   ·rw [zSV] at h;exact wpAny_eqBool_str h
 «strs»:=λk x t v h=>by
  rcases yU h with ⟨i,u,rfl,e⟩|⟨y,u,rfl,e⟩
  ·exact nomatch e
  ·injection e with e1 _
   subst e1
   cases v<;>rfl
theorem zIT (prog:Program) (w:World) (i:Int) (t:Tok):(zy prog w).is (.inl i) (.int i t)=true:=zLF i t
theorem zIU (prog:Program) (w:World) (x:Str) (t:Tok):(zy prog w).is (.inr x) (.str x t)=true:=zLG x t
end L2
namespace L2
open PySem PySem.Spec PyProof.Rows
inductive V where
 |non|bl (b:Bool)|int (i:Int)|str (x:Str)|byt (b:Array UInt8)|flt (b:UInt64)|ref (a:Addr)|ty (n:String)
 deriving DecidableEq
noncomputable def yr:V->Value->Prop
 |.non,u=>u=Value.none
 |.bl b,u=>u=Value.bool b
 |.int i,u=>∃ t,u=Value.int i t
 |.str x,u=>∃ t,u=Value.str x t
 |.byt b,u=>∃ t,u=Value.bytes b t
 |.flt b,u=>∃ t,u=Value.float b t
 |.ref a,u=>u=Value.ref a
 |.ty n,u=>u=Value.type n
abbrev yP:List V->List Value->Prop:=Paired yr
theorem yP.length {xs:List V} {us:List Value} (r:yP xs us):xs.length=us.length:=zWO r
theorem yP.get:∀ {xs:List V} {us:List Value} {i:Nat} {x:V},yP xs us->xs[i]?=some x->∃ u,us[i]?=some u/\yr x u
 |_,_,_,_,.nil,e=>by simp at e
 |_,_,0,_,.cons r _,e=>by simp at e;subst e;exact ⟨_,rfl,r⟩
 |_,_,i+1,x,.cons _ t,e=>by
  obtain ⟨u,h1,h2⟩:=yP.get (i:=i) (x:=x) t (by simpa using e)
  exact ⟨u,by simpa using h1,h2⟩
theorem yP.set {x:V} {u:Value} (r:yr x u):∀ {xs:List V} {us:List Value} (i:Nat),yP xs us->yP (xs.set i x) (us.set i u)
 |_,_,_,.nil=>.nil
 |_,_,0,.cons _ t=>.cons r t
 |_,_,i+1,.cons q t=>.cons q (yP.set r i t)
theorem yP.append:∀ {xs ys:List V} {us ws:List Value},yP xs us->yP ys ws->yP (xs++ys) (us++ws)
 |_,_,_,_,.nil,s=>s
 |_,_,_,_,.cons r t,s=>.cons r (yP.append t s)
theorem yP.take:∀ {xs:List V} {us:List Value} (n:Nat),yP xs us->yP (xs.take n) (us.take n)
 |_,_,0,_=>.nil
 |_,_,_+1,.nil=>.nil
 |_,_,n+1,.cons r t=>.cons r (yP.take n t)
theorem yP.drop:∀ {xs:List V} {us:List Value} (n:Nat),yP xs us->yP (xs.drop n) (us.drop n)
 |_,_,0,r=>r
 |_,_,_+1,.nil=>.nil
 |_,_,n+1,.cons _ t=>yP.drop n t
noncomputable def zFT:Option V->Option Value->Prop
 |some v,some u=>yr v u
 |none,none=>True
 |_,_=>False
noncomputable def KV {κ:Type}:List (κ×V)->List (κ×Value)->Prop:=Paired λ(p:κ×V) (q:κ×Value)=>p.1=q.1/\yr p.2 q.2
noncomputable def kV:Key->V
 |.inl i=>.int i
 |.inr x=>.str x
inductive HO where
  |lst (xs:List V)
  |tup (xs:List V)
  |dK (kvs:List (Key×V))|dT (kvs:List (List Key×V))
  |set (S:Int->Bool) (n:Nat)
  |ins (C dx:Addr) (fs:List (Str×V))
  |own (x:Addr)
  |xd (fs:List (Str×V))
  |met (f x:Addr)
  |rng (lo hi:Int)
  |frz (o:Obj) (u:HO)
  |tbl (ps:Array Value)
  |ext (φ:Heap->Prop)
def zA6 (h:Heap) (a:Addr) (items:Array Value):Prop:=∃ o,h.get? a=some o/\o.cls = .type "tuple"/\∃ n,o.data = .seq items n/\o.dict=none
theorem zA6.tup {h:Heap} {a:Addr} {items:Array Value} (x:zA6 h a items):IsTup h a items:=let ⟨o,e,c,n,d,_⟩:=x;⟨o,e,c,n,d⟩
theorem zA6.lt {h:Heap} {a:Addr} {items:Array Value} (x:zA6 h a items):a<h.objs.size:=x.tup.lt
theorem zA6.new (h:Heap) (items:Array Value):zA6 (h.push { cls:=.type "tuple",data:=.seq items }) h.objs.size items:=⟨_,zU4 _ rfl,rfl,_,rfl,rfl⟩
abbrev Hp:=Addr->Option HO
noncomputable def upd (H:Hp) (a:Addr) (o:HO):Hp:=λb=>if b=a then some o else H b
theorem zM {H:Hp} {a:Addr} {o:HO}:upd H a o a=some o:=by unfold upd;rw [zUp rfl]
theorem zK {H:Hp} {a b:Addr} {o:HO} (h:b≠a):upd H a o b=H b:=by unfold upd;rw [zVD h]
theorem zQD {H:Hp} {a b:Addr} {o u:HO} (h:H a=some o) (h':H b=some u) (d:o≠u):a≠b:=by
 intro e;subst e;rw [h] at h';exact d (zVY h')
theorem yq {H:Hp} {a b:Addr} {o:HO} (h:H a=some o) (h':H b=none):a≠b:=by
 intro e;subst e;rw [h] at h';cases h'
section
variable (P:Program) (w:World)
noncomputable def zAC (H:Hp) (h:Heap) (a:Addr):HO->Prop
 |.lst xs=>xs.length<=sizeLine/\∃ (its:List Value) (n:Nat),yP xs its/\h.get? a=some { cls:=.type "list",data:=.seq its.toArray n }
 |.tup xs=>xs.length<=sizeLine/\∃ its:List Value,yP xs its/\zA6 h a its.toArray
 |.dK kvs=>kvs.length<=sizeLine/\(a == sysModules)=false/\∃ vs,KV kvs vs/\h.DictOf (zy P w) a vs
 |.dT kvs=>kvs.length<=sizeLine/\(a == sysModules)=false/\∃ xs:List (List Key×Addr×Value),
   Paired (λ(p:List Key×V) (q:List Key×Addr×Value)=>p.1=q.1/\H q.2.1=some (.tup (p.1.map kV))/\yr p.2 q.2.2) kvs xs /\
   ∃ o es ep,h.get? a=some o/\o.ExactDict/\o.data = .dict es ep/\es.toList=xs.map (entryOfKey (tupleKind (zy P w)))/\(xs.map (·.1)).Nodup
 |.set S n=>h.SetOf (intKind P w) a S n
 |.ins C dx fs=>H dx=some (.own a)/\fs.length<=1000/\dx≠a/\h.get? a=some (PySem.W.instObj C dx) /\
   ∃ mA,h.Ns1 dx mA/\(∀ f,zFT (fs.lookup f) (mA f))/\PySem.Within mA (fs.map (·.1))
 |.own _=>∃ o,h.get? a=some o
 |.xd fs=>∃ mA,h.Ns1 a mA/\∀ f,zFT (fs.lookup f) (mA f)
 |.rng lo hi=>∃ t u v,h.get? a=some { cls:=.type "range",data:=.fields #[.int lo t,.int hi u,.int 1 v] }
 |.frz o u=>h.get? a=some o/\zAC H h a u
 |.tbl ps=>h.get? a=some { cls:=.none,data:=.fields ps }
 |.met f x=>h.get? a=some (PySem.W.methodObj (.ref f) (.ref x))
 |.ext φ=>φ h/\(∃ o,h.get? a=some o)/\∀ h1 h2:Heap,φ h1->(∀ o,h1.get? a=some o->h2.get? a=some o)->φ h2
def HOk (H:Hp) (h:Heap):Prop:=∀ a o,H a=some o->zAC P w H h a o
end
section
variable {P:Program} {w:World} {H H':Hp} {h h':Heap} {a:Addr} {o:HO}
theorem zAC.lt (x:zAC P w H h a o):a<h.objs.size:=by
 cases o with
 |lst xs=>obtain ⟨_,_,_,_,e⟩:=x;exact zUo e
 |tup xs=>obtain ⟨_,_,_,p⟩:=x;exact p.lt
 |dK kvs=>obtain ⟨_,_,_,_,o,_,_,e,_⟩:=x;exact zUo e
 |dT kvs=>obtain ⟨_,_,_,_,o,_,_,e,_⟩:=x;exact zUo e
 |set S n=>obtain ⟨o,_,_,_,e,_⟩:=x;exact zUo e
 |ins C dx fs=>obtain ⟨_,_,_,e,_⟩:=x;exact zUo e
 |own y=>obtain ⟨_,e⟩:=x;exact zUo e
 |xd fs=>obtain ⟨_,⟨_,_,_,e,_⟩,_⟩:=x;exact zUo e
 |rng lo hi=>obtain ⟨_,_,_,e⟩:=x;exact zUo e
 |frz ob u=>obtain ⟨e,_⟩:=x;exact zUo e
 |tbl ps=>exact zUo (show h.get? a=some _ from x)
 |met f y=>exact zUo (show h.get? a=some _ from x)
 |ext φ=>obtain ⟨_,⟨_,e⟩,_⟩:=x;exact zUo e
theorem Paired.mapP {α β:Type} {F G:α->β->Prop}:∀ {l₁:List α} {l₂:List β},Paired F l₁ l₂->(∀ a b,F a b->G a b)->Paired G l₁ l₂
 |_,_,.nil,_=>.nil
 |_,_,.cons r t,f=>.cons (f _ _ r) (Paired.mapP t f)
theorem zAC.stay (x:zAC P w H h a o) (k:∀ b u,(b=a\/H b=some (.own a))->h.get? b=some u->h'.get? b=some u)
  (ho:∀ b,H b=some (.own a)->H' b=some (.own a)) (ht:∀ b xs,H b=some (.tup xs)->H' b=some (.tup xs)):zAC P w H' h' a o:=by
 induction o with
 |lst xs=>obtain ⟨z,its,n,r,e⟩:=x;exact ⟨z,its,n,r,k _ _ (.inl rfl) e⟩
 |tup xs=>obtain ⟨z,its,r,ob,e,c⟩:=x;exact ⟨z,its,r,ob,k _ _ (.inl rfl) e,c⟩
 |dK kvs=>obtain ⟨z,y,vs,r,ob,es,ep,e,c⟩:=x;exact ⟨z,y,vs,r,ob,es,ep,k _ _ (.inl rfl) e,c⟩
 |dT kvs=>
  obtain ⟨z,y,xs,r,ob,es,ep,e,c⟩:=x
  exact ⟨z,y,xs,Paired.mapP r λp q z=>⟨z.1,ht _ _ z.2.1,z.2.2⟩,ob,es,ep,k _ _ (.inl rfl) e,c⟩
 |set S n=>obtain ⟨ob,es,ep,t,e,c⟩:=x;exact ⟨ob,es,ep,t,k _ _ (.inl rfl) e,c⟩
 |ins C dx fs=>
  obtain ⟨d,z,ne,e,mA,⟨od,es,ep,e2,c⟩,r⟩:=x
  exact ⟨ho _ d,z,ne,k _ _ (.inl rfl) e,mA,⟨od,es,ep,k _ _ (.inr d) e2,c⟩,r⟩
 |own y=>obtain ⟨ob,e⟩:=x;exact ⟨ob,k _ _ (.inl rfl) e⟩
 |xd fs=>obtain ⟨mA,⟨od,es,ep,e,c⟩,r⟩:=x;exact ⟨mA,⟨od,es,ep,k _ _ (.inl rfl) e,c⟩,r⟩
 |rng lo hi=>obtain ⟨t,u,v,e⟩:=x;exact ⟨t,u,v,k _ _ (.inl rfl) e⟩
 |frz ob u ih=>obtain ⟨e,q⟩:=x;exact ⟨k _ _ (.inl rfl) e,ih q⟩
 |tbl ps=>
  have e:h.get? a=some { cls:=.none,data:=.fields ps }:=x
  show h'.get? a=some { cls:=.none,data:=.fields ps }
  exact k a _ (.inl rfl) e
 |met f y=>
  have e:h.get? a=some (PySem.W.methodObj (.ref f) (.ref y)):=x
  show h'.get? a=some (PySem.W.methodObj (.ref f) (.ref y))
  exact k a _ (.inl rfl) e
 |ext φ=>obtain ⟨p,⟨o,e⟩,st⟩:=x;exact ⟨st _ _ p λo q=>k _ _ (.inl rfl) q,⟨o,k _ _ (.inl rfl) e⟩,st⟩
theorem HOk.lt (x:HOk P w H h) (e:H a=some o):a<h.objs.size:=(x a o e).lt
theorem HOk.fresh (x:HOk P w H h) (e:h.objs.size<=a):H a=none:=by
 cases q:H a with
 |none=>rfl
 |some u=>exact absurd (zUm (x.lt q) e) (zVp _)
theorem HOk.kept (x:HOk P w H h) (k:∀ b u,h.get? b=some u->h'.get? b=some u):HOk P w H h':=λa o e=>
 (x a o e).stay (λb u _ q=>k b u q) (λ_ q=>q) λ_ _ q=>q
theorem HOk.laid (x:HOk P w H h) (k:∀ b u,h.get? b=some u->h'.get? b=some u) (hp:h.objs.size<=a) (new:zAC P w (upd H a o) h' a o):HOk P w (upd H a o) h':=λb u e=>by
 have hn:=x.fresh hp
 by_cases hb:b=a
 ·subst hb;rw [zM] at e;cases e;exact new
 ·rw [zK hb] at e
  exact (x b u e).stay (λc v _ q=>k c v q) (λc q=>by rw [zK (yq q hn)];exact q) λc xs q=>by rw [zK (yq q hn)];exact q
end
def Rd (H:Hp) (a:Addr) (u:HO):Prop:=H a=some u\/∃ o,H a=some (.frz o u)
theorem Rd.ok {P:Program} {w:World} {H:Hp} {h:Heap} {a:Addr} {u:HO} (r:Rd H a u) (x:HOk P w H h):zAC P w H h a u:=by
 rcases r with r|⟨o,r⟩
 ·exact x a u r
 ·obtain ⟨_,q⟩:=x a _ r
  exact q
noncomputable def Mut:Option HO->Prop
 |some (.lst _)=>True
 |some (.dK _)=>True
 |some (.dT _)=>True
 |some (.set _ _)=>True
 |some (.ins _ _ _)=>True
 |some (.ext _)=>True
 |_=>False
section
variable {P:Program} {w:World} {H:Hp} {h h':Heap} {x e:Addr} {o':HO}
theorem HOk.write (ok:HOk P w H h) (mu:Mut (H x)) (he:e=x\/H e=some (.own x)) (k:∀ b u,b≠e->h.get? b=some u->h'.get? b=some u) (heo:∃ u,h'.get? e=some u)
  (new:zAC P w (upd H x o') h' x o'):HOk P w (upd H x o') h':=λb u q=>by
 have nown:∀ c y,H c=some (.own y)->c≠x:=λc y r z=>by subst z;rw [r] at mu;exact mu
 have ntup:∀ c xs,H c=some (.tup xs)->c≠x:=λc xs r z=>by subst z;rw [r] at mu;exact mu
 by_cases hb:b=x
 ·subst hb;rw [zM] at q;cases q;exact new
 ·rw [zK hb] at q
  by_cases hbe:b=e
  ·have q':H b=some (.own x):=by
    rcases he with z|z
    ·exact absurd (hbe.trans z) hb
    ·rw [hbe];exact z
   rw [q] at q';cases q'
   obtain ⟨v,hv⟩:=heo
   exact ⟨v,by rw [hbe];exact hv⟩
  ·refine (ok b u q).stay (λc v hc r=>k c v ?_ r) (λc r=>by rw [zK (nown c b r)];exact r) λc xs r=>by rw [zK (ntup c xs r)];exact r
   rcases hc with rfl|hc
   ·exact hbe
   ·rintro rfl
    rcases he with z|z
    ·exact nown c b hc z
    ·rw [hc] at z;cases z;exact hb rfl
end
structure Un (fs ex:List Addr) (H H':Hp) (h h':Heap):Prop where
 keep:∀ b o,h.get? b=some o->H b=none->b∉fs->b∉ex->h'.get? b=some o
 slot:∀ b o,h.get? b=some o->H b=none->b∈fs->b∉ex->∃ sl,h'.get? b=some { o with slots:=sl }
 free:∀ b o,h.get? b=some o->H b=none->b∉ex->H' b=none
 there:∀ b o,h.get? b=some o->b∉ex->∃ o',h'.get? b=some o'
 tups:∀ b xs,H b=some (.tup xs)->H' b=some (.tup xs)
 frzs:∀ b o u,H b=some (.frz o u)->H' b=some (.frz o u)
 tbls:∀ b ps,H b=some (.tbl ps)->∃ more,H' b=some (.tbl (ps++more))
section
variable {fs fs' ex ex':List Addr} {H H1 H2:Hp} {h h1 h2 h':Heap} {a x e:Addr} {o:HO}
theorem Un.any (u:Un fs ex H H1 h h1) {b:Addr} {ob:Obj} (q:h.get? b=some ob) (n:H b=none) (hx:b∉ex):∃ sl,h1.get? b=some { ob with slots:=sl }:=by
 by_cases hb:b∈fs
 ·exact u.slot b ob q n hb hx
 ·exact ⟨ob.slots,u.keep b ob q n hb hx⟩
theorem Un.kept (k:∀ b u,h.get? b=some u->h'.get? b=some u):Un fs ex H H h h':=
 ⟨λb ob q _ _ _=>k b ob q,λb ob q _ _ _=>⟨ob.slots,k b ob q⟩,λ_ _ _ n _=>n,λb ob q _=>⟨ob,k b ob q⟩,λ_ _ q=>q,λ_ _ _ q=>q,λ_ ps q=>⟨#[],by rw [q];simp⟩⟩
theorem Un.refl:Un fs ex H H h h:=Un.kept λ_ _ q=>q
theorem Un.laid (k:∀ b u,h.get? b=some u->h'.get? b=some u) (hp:h.objs.size<=a) (hn:H a=none):Un fs ex H (upd H a o) h h' where
 keep:=λb u q _ _ _=>k b u q
 slot:=λb u q _ _ _=>⟨u.slots,k b u q⟩
 free:=λb u q n _=>by rw [zK (zU0 (zUm (zUo q) hp))];exact n
 there:=λb u q _=>⟨u,k b u q⟩
 tups:=λb xs q=>by rw [zK (yq q hn)];exact q
 frzs:=λb u xs q=>by rw [zK (yq q hn)];exact q
 tbls:=λb ps q=>⟨#[],by rw [zK (yq q hn),q];simp⟩
theorem Un.write (mu:Mut (H x)) (he:e=x\/H e=some (.own x)) (k:∀ b u,b≠e->h.get? b=some u->h'.get? b=some u) (heo:∃ u,h'.get? e=some u):Un fs ex H (upd H x o) h h':=by
 have hx:∀ b,H b=none->b≠x:=λb n z=>by subst z;rw [n] at mu;exact mu
 have hb:∀ b,H b=none->b≠e:=λb n z=>by
  subst z
  rcases he with r|r
  ·exact hx b n r
  ·rw [n] at r;cases r
 have hm:∀ b u,H b=some u->¬ Mut (some u)->b≠x:=λb u q nm z=>by subst z;rw [q] at mu;exact nm mu
 refine ⟨λb u q n _ _=>k b u (hb b n) q,λb u q n _ _=>⟨u.slots,k b u (hb b n) q⟩,λb u q n _=>by rw [zK (hx b n)];exact n,λb u q _=>?_,
  λb xs q=>by rw [zK (hm b _ q λz=>z)];exact q,λb u xs q=>by rw [zK (hm b _ q λz=>z)];exact q,λb ps q=>⟨#[],by rw [zK (hm b _ q λz=>z),q];simp⟩⟩
 by_cases hbe:b=e
 ·subst hbe;exact heo
 ·exact ⟨u,k b u hbe q⟩
end
noncomputable def trk (h:Heap) (H:Hp):List Addr:=(List.range h.objs.size).filter λa=>(H a).isSome
noncomputable def zNh (h:Heap) (H:Hp):Heap:=PySem.W.hideAll h (trk h H)
theorem zLH (h:Heap) (H:Hp):(zNh h H).objs.size=h.objs.size:=PySem.W.hideAll_size _ _
theorem zNi {h:Heap} {H:Hp} {b:Addr} {o:Obj} (e:h.get? b=some o) (n:H b=none):(zNh h H).get? b=some o:=
 zV1 _ e λhm=>by
  have q:(H b).isSome=true:=(zVr.mp hm).2
  rw [n] at q;simp at q
theorem zQE {h:Heap} {H:Hp} {b:Addr} {o:Obj} (e:(zNh h H).get? b=some o):h.get? b=some o/\H b=none:=by
 have e':h.get? b=some o:=zWe (trk h H) e
 refine ⟨e',?_⟩
 cases q:H b with
 |none=>rfl
 |some x=>
  have hm:b∈trk h H:=zVr.mpr ⟨zVy.mpr (zUo e'),by simp [q]⟩
  have z:(zNh h H).get? b=none:=zVx (trk h H) hm
  rw [z] at e;cases e
noncomputable def zQF (g h:Heap) (L:Addr):PNt:=(List.range h.objs.size).filterMap λa=>if a=L\/(g.get? a).isSome=true then none else (h.get? a).map λo=>(a,o)
noncomputable def rest (g h:Heap) (L d:Addr):PNt:=(zQF g h L).filter λp=>decide (p.1≠d)
end L2
namespace L2
open PySem PySem.Spec PyProof.Rows
structure Mod (K:Fg) (mg:MGt) (base:Heap):Prop where
 kin:K.In base
 glob:base.Ns mainGlobals mg
 blt:∃ mb,base.Ns builtinsNs mb/\∀ x:Str,x ≠ "__name__"->mb x=bootBuiltins x
 nolimit:base.NoLimit
structure Cx where
 prog:Program
 w:World
 K:Fg
 mg:MGt
 base:Heap
 A:Around
 N:List Str
 s₀:Shared
 H₀:Hp
 env:Env
 outer:List Env
 stack:List Env
 ex:List Addr
 fn:Str->Bool
 calm:Bool
 pn:PNt
 xe:VSt
noncomputable def frs (l:List Env):List Addr:=l.filterMap (·.frame)
abbrev Cx.fs (X:Cx):List Addr:=frs X.outer
def Vis (sc:Scope) (x:Str):Prop:=sc.names.lookup x=some .local\/sc.names.lookup x=some .cell\/sc.names.lookup x=some .free
def Loc (sc:Scope) (x:Str):Prop:=sc.names.lookup x=some .local\/sc.names.lookup x=some .cell
def Look (env:Env) (h:Heap) (m:MGt) (x:Str) (u:Value):Prop:=
 (env.kindOf x=some .local/\m x=some u)\/((env.kindOf x=some .cell\/env.kindOf x=some .free)/\∃ c,env.cells.lookup x=some c/\h.IsCell c (some u))
structure Cx.Ok (X:Cx):Prop where
 mod:Mod X.K X.mg X.base
 kind:X.env.scope.kind = .function
 glob:X.env.globals=mainGlobals
 blt:X.env.builtins=builtinsNs
 above:X.s₀.heap.objs.size<=X.env.locals
 inj:∀ x y c,X.env.cells.lookup x=some c->X.env.cells.lookup y=some c->x=y
 has:∀ x,(X.env.kindOf x=some .cell\/X.env.kindOf x=some .free)->∃ c,X.env.cells.lookup x=some c
 cab:∀ x c,X.fn x=true->X.env.cells.lookup x=some c->X.s₀.heap.objs.size<=c
 hd:X.calm=true->X.A.handled=none
 frames:X.A.frames=some X.stack
 stk:X.stack=X.outer\/(X.stack=X.env::X.outer/\X.env.frame=some X.env.locals)
 exf:∀ b∈X.ex,b≠X.env.locals/\∀ x c,X.env.cells.lookup x=some c->c≠b
 bs:∀ b o,X.base.get? b=some o->X.s₀.heap.get? b=some o/\X.H₀ b=none
 bsz:X.base.objs.size<=X.s₀.heap.objs.size
 noex:∀ b o,X.base.get? b=some o->b∉X.ex
 exfs:∀ b∈X.ex,b∉X.fs
 funs:X.s₀.heap.FunFrames X.base X.outer
 frf:∀ b∈X.fs,X.H₀ b=none
structure Inv (X:Cx) (pins:PNt) (σ:List (Option V)) (H:Hp) (s:Shared):Prop where
 ok:X.Ok
 os:s.os=X.s₀.os
 bare:AllBare s.gens
 base:Un X.fs X.ex X.H₀ H X.s₀.heap s.heap
 loc:∃ m,s.heap.Ns X.env.locals m/\∀ (i:Nat) (x:Str) (v:V),X.N[i]?=some x->σ[i]?=some (some v)->Vis X.env.scope x->∃ u,yr v u/\Look X.env s.heap m x u
 cell:∀ x c,X.env.cells.lookup x=some c->∃ v,s.heap.IsCell c v
 free:H X.env.locals=none
 freeC:∀ x c,X.env.cells.lookup x=some c->H c=none
 pin:∀ p∈X.pn++pins,s.heap.get? p.1=some p.2/\H p.1=none/\p.1≠X.env.locals/\p.1∉X.fs/\∀ v,p.2.data≠.cell v
 hok:HOk X.prog X.w H s.heap
 len:σ.length=X.N.length
section
variable {X:Cx} {pins:PNt} {σ:List (Option V)} {H H':Hp} {s:Shared} {h':Heap}
theorem Cx.Ok.nofr (ok:X.Ok) {b:Addr} {o:Obj} (e:X.base.get? b=some o):b∉X.fs:=λhb=>by
 have:=(ok.funs.mem hb).1
 rw [e] at this;cases this
theorem Inv.bs (I:Inv X pins σ H s):∀ b o,X.base.get? b=some o->s.heap.get? b=some o/\H b=none:=λb o e=>
 ⟨I.base.keep b o (I.ok.bs b o e).1 (I.ok.bs b o e).2 (I.ok.nofr e) (I.ok.noex b o e),I.base.free b o (I.ok.bs b o e).1 (I.ok.bs b o e).2 (I.ok.noex b o e)⟩
theorem Inv.bk (I:Inv X pins σ H s):∀ b o,X.base.get? b=some o->s.heap.get? b=some o:=λb o e=>(I.bs b o e).1
theorem Inv.mod (I:Inv X pins σ H s):Mod X.K X.mg X.base:=I.ok.mod
theorem Inv.kIn (I:Inv X pins σ H s):X.K.In s.heap:=I.ok.mod.kin.keeps I.bk
theorem Inv.lt (I:Inv X pins σ H s):X.env.locals<s.heap.objs.size:=let ⟨_,hn,_⟩:=I.loc;hn.lt
theorem Inv.sz (I:Inv X pins σ H s):X.s₀.heap.objs.size<=s.heap.objs.size:=zVF I.ok.above (Nat.le_of_lt I.lt)
theorem Inv.nofs (I:Inv X pins σ H s) {a:Addr} (h:s.heap.objs.size<=a):a∉X.fs:=λhb=>by
 obtain ⟨_,o,ho,_⟩:=I.ok.funs.mem hb
 exact absurd (zUm (zUo ho) (zVF I.sz h)) (zVp _)
theorem Inv.cne (I:Inv X pins σ H s):∀ x c,X.env.cells.lookup x=some c->c≠X.env.locals:=λx c e z=>by
 obtain ⟨v,o,ho,hd⟩:=I.cell x c e
 obtain ⟨m,⟨o',es,ep,ho',hd',_⟩,_⟩:=I.loc
 rw [z,ho'] at ho;cases ho;rw [hd'] at hd;cases hd
theorem Inv.funs (I:Inv X pins σ H s):s.heap.FunFrames X.base X.outer:=by
 have all:∀ (l:List Env),(∀ b∈frs l,b∈X.fs)->X.s₀.heap.FunFrames X.base l->s.heap.FunFrames X.base l:=by
  intro l
  induction l with
  |nil=>intro _ _;trivial
  |cons env r ih=>
   intro hs hl
   obtain ⟨hk,⟨L,o,hf,hn,ho,hd⟩,hr⟩:=hl
   have hL:L∈X.fs:=hs L (by unfold frs;rw [zVm,hf];exact zUd)
   obtain ⟨sl,e⟩:=I.base.slot L o ho (I.ok.frf L hL) hL λz=>I.ok.exfs L z hL
   exact ⟨hk,⟨L,_,hf,hn,e,hd⟩,ih (λb hb=>hs b (by unfold frs;rw [zVm,hf];exact zUY _ hb)) hr⟩
 exact all X.outer (λ_ hb=>hb) I.ok.funs
theorem Inv.stack (I:Inv X pins σ H s):s.heap.FunFrames X.base X.stack:=by
 rcases I.ok.stk with e|⟨e,hf⟩
 ·rw [e];exact I.funs
 ·rw [e]
  obtain ⟨m,hn,_⟩:=I.loc
  refine .cons (by rw [I.ok.kind];decide) hf hn ?_ I.funs
  exact Heap.get?_none_of_le (zVF I.ok.bsz I.ok.above)
theorem Inv.stkSub (I:Inv X pins σ H s):∀ b∈frs X.stack,b∈X.env.locals::X.fs:=λb hb=>by
 rcases I.ok.stk with e|⟨e,hf⟩
 ·rw [e] at hb;exact zUY _ hb
 ·rw [e] at hb
  unfold frs at hb
  rw [zVm,hf] at hb
  exact hb
theorem Inv.stkFree (I:Inv X pins σ H s):∀ b∈frs X.stack,H b=none:=λb hb=>by
 rcases zUg.mp (I.stkSub b hb) with e|hb
 ·rw [e];exact I.free
 ·obtain ⟨_,o,ho,_⟩:=I.ok.funs.mem hb
  exact I.base.free b o ho (I.ok.frf b hb) λz=>I.ok.exfs b z hb
theorem Inv.step {g':Array GenState} {t':Nat} {d':Drawn} {ch:List Addr} (I:Inv X pins σ H s)
  (hch:∀ b∈ch,(b∈X.ex\/X.s₀.heap.objs.size<=b)/\b≠X.env.locals/\(∀ x c,X.env.cells.lookup x=some c->c≠b)/\∀ p∈X.pn++pins,p.1≠b)
  (keep:∀ b o,b≠X.env.locals->b∉X.fs->b∉ch->s.heap.get? b=some o->H b=none->h'.get? b=some o)
  (slot:∀ b o,b≠X.env.locals->b∈X.fs->b∉ch->s.heap.get? b=some o->H b=none->∃ sl,h'.get? b=some { o with slots:=sl }) (free:∀ b o,b∉ch->s.heap.get? b=some o->H b=none->H' b=none)
  (there:∀ b o,b∉ch->s.heap.get? b=some o->∃ o',h'.get? b=some o')
  (tups:∀ b xs,H b=some (.tup xs)->H' b=some (.tup xs)) (frzs:∀ b o u,H b=some (.frz o u)->H' b=some (.frz o u)) (tbls:∀ b ps,H b=some (.tbl ps)->∃ more,H' b=some (.tbl (ps++more)))
  (ns:∀ m,s.heap.Ns X.env.locals m->h'.Ns X.env.locals m) (hok:HOk X.prog X.w H' h') (hg:AllBare g') :
  Inv X pins σ H' { s with heap:=h',gens:=g',drawn:=d',toks:=t' }:=by
 have neL:∀ b o,X.s₀.heap.get? b=some o->b≠X.env.locals:=λb o e=>zU0 (zUm (zUo e) I.ok.above)
 have neC:∀ b o,X.s₀.heap.get? b=some o->b∉X.ex->b∉ch:=λb o e hx hb=>by
  rcases (hch b hb).1 with z|z
  ·exact hx z
  ·exact absurd (zUm (zUo e) z) (zVp _)
 have cellK:∀ x c,X.env.cells.lookup x=some c->∀ v,s.heap.IsCell c v->h'.IsCell c v:=λx c e v=>by
  rintro ⟨o,ho,hd⟩
  have nch:c∉ch:=λz=>(hch c z).2.2.1 x c e rfl
  by_cases hc:c∈X.fs
  ·obtain ⟨sl,q⟩:=slot c o (I.cne x c e) hc nch ho (I.freeC x c e)
   exact ⟨_,q,hd⟩
  ·exact ⟨o,keep c o (I.cne x c e) hc nch ho (I.freeC x c e),hd⟩
 refine ⟨I.ok,I.os,hg,⟨λb o e n hb hx=>?_,λb o e n hb hx=>?_,λb o e n hx=>?_,λb o e hx=>?_,λb xs e=>tups b xs (I.base.tups b xs e),λb o xs e=>frzs b o xs (I.base.frzs b o xs e),λb ps e=>?_⟩,?_,λx c e=>?_,?_,λx c e=>?_,λp hp=>?_,hok,I.len⟩
 ·exact keep b o (neL b o e) hb (neC b o e hx) (I.base.keep b o e n hb hx) (I.base.free b o e n hx)
 ·obtain ⟨sl,e1⟩:=I.base.slot b o e n hb hx
  obtain ⟨sl',e2⟩:=slot b _ (neL b o e) hb (neC b o e hx) e1 (I.base.free b o e n hx)
  exact ⟨sl',e2⟩
 ·obtain ⟨o',e1⟩:=I.base.there b o e hx
  exact free b o' (neC b o e hx) e1 (I.base.free b o e n hx)
 ·obtain ⟨o',e1⟩:=I.base.there b o e hx
  exact there b o' (neC b o e hx) e1
 ·obtain ⟨m1,e1⟩:=I.base.tbls b ps e
  obtain ⟨m2,e2⟩:=tbls b _ e1
  exact ⟨m1++m2,by rw [e2,Array.append_assoc]⟩
 ·obtain ⟨m,hn,hl⟩:=I.loc
  refine ⟨m,ns m hn,λi x v e1 e2 e3=>?_⟩
  obtain ⟨u,r,l⟩:=hl i x v e1 e2 e3
  refine ⟨u,r,?_⟩
  rcases l with l|⟨k,c,e,z⟩
  ·exact .inl l
  ·exact .inr ⟨k,c,e,cellK x c e _ z⟩
 ·obtain ⟨v,z⟩:=I.cell x c e
  exact ⟨v,cellK x c e v z⟩
 ·obtain ⟨m,⟨o,_,_,ho,_⟩,_⟩:=I.loc
  exact free _ o (λz=>(hch _ z).2.1 rfl) ho I.free
 ·obtain ⟨v,o,ho,hd⟩:=I.cell x c e
  exact free c o (λz=>(hch c z).2.2.1 x c e rfl) ho (I.freeC x c e)
 ·obtain ⟨e,n,ne,nf,d⟩:=I.pin p hp
  have nch:p.1∉ch:=λz=>(hch p.1 z).2.2.2 p hp rfl
  exact ⟨keep p.1 p.2 ne nf nch e n,free p.1 p.2 nch e n,ne,nf,d⟩
theorem Inv.stepN {g':Array GenState} {t':Nat} {d':Drawn} {ch:List Addr} (I:Inv X pins σ H s)
  (hch:∀ b∈ch,(b∈X.ex\/X.s₀.heap.get? b=none)/\b≠X.env.locals/\(∀ x c,X.env.cells.lookup x=some c->c≠b)/\∀ p∈X.pn++pins,p.1≠b)
  (keep:∀ b o,b≠X.env.locals->b∉X.fs->b∉ch->s.heap.get? b=some o->H b=none->h'.get? b=some o)
  (slot:∀ b o,b≠X.env.locals->b∈X.fs->b∉ch->s.heap.get? b=some o->H b=none->∃ sl,h'.get? b=some { o with slots:=sl }) (free:∀ b o,b∉ch->s.heap.get? b=some o->H b=none->H' b=none)
  (there:∀ b o,b∉ch->s.heap.get? b=some o->∃ o',h'.get? b=some o')
  (tups:∀ b xs,H b=some (.tup xs)->H' b=some (.tup xs)) (frzs:∀ b o u,H b=some (.frz o u)->H' b=some (.frz o u)) (tbls:∀ b ps,H b=some (.tbl ps)->∃ more,H' b=some (.tbl (ps++more)))
  (ns:∀ m,s.heap.Ns X.env.locals m->h'.Ns X.env.locals m) (hok:HOk X.prog X.w H' h') (hg:AllBare g') :
  Inv X pins σ H' { s with heap:=h',gens:=g',drawn:=d',toks:=t' }:=by
 have neL:∀ b o,X.s₀.heap.get? b=some o->b≠X.env.locals:=λb o e=>zU0 (zUm (zUo e) I.ok.above)
 have neC:∀ b o,X.s₀.heap.get? b=some o->b∉X.ex->b∉ch:=λb o e hx hb=>by
  rcases (hch b hb).1 with z|z
  ·exact hx z
  ·rw [z] at e;cases e
 have cellK:∀ x c,X.env.cells.lookup x=some c->∀ v,s.heap.IsCell c v->h'.IsCell c v:=λx c e v=>by
  rintro ⟨o,ho,hd⟩
  have nch:c∉ch:=λz=>(hch c z).2.2.1 x c e rfl
  by_cases hc:c∈X.fs
  ·obtain ⟨sl,q⟩:=slot c o (I.cne x c e) hc nch ho (I.freeC x c e)
   exact ⟨_,q,hd⟩
  ·exact ⟨o,keep c o (I.cne x c e) hc nch ho (I.freeC x c e),hd⟩
 refine ⟨I.ok,I.os,hg,⟨λb o e n hb hx=>?_,λb o e n hb hx=>?_,λb o e n hx=>?_,λb o e hx=>?_,λb xs e=>tups b xs (I.base.tups b xs e),λb o xs e=>frzs b o xs (I.base.frzs b o xs e),λb ps e=>?_⟩,?_,λx c e=>?_,?_,λx c e=>?_,λp hp=>?_,hok,I.len⟩
 ·exact keep b o (neL b o e) hb (neC b o e hx) (I.base.keep b o e n hb hx) (I.base.free b o e n hx)
 ·obtain ⟨sl,e1⟩:=I.base.slot b o e n hb hx
  obtain ⟨sl',e2⟩:=slot b _ (neL b o e) hb (neC b o e hx) e1 (I.base.free b o e n hx)
  exact ⟨sl',e2⟩
 ·obtain ⟨o',e1⟩:=I.base.there b o e hx
  exact free b o' (neC b o e hx) e1 (I.base.free b o e n hx)
 ·obtain ⟨o',e1⟩:=I.base.there b o e hx
  exact there b o' (neC b o e hx) e1
 ·obtain ⟨m1,e1⟩:=I.base.tbls b ps e
  obtain ⟨m2,e2⟩:=tbls b _ e1
  exact ⟨m1++m2,by rw [e2,Array.append_assoc]⟩
 ·obtain ⟨m,hn,hl⟩:=I.loc
  refine ⟨m,ns m hn,λi x v e1 e2 e3=>?_⟩
  obtain ⟨u,r,l⟩:=hl i x v e1 e2 e3
  refine ⟨u,r,?_⟩
  rcases l with l|⟨k,c,e,z⟩
  ·exact .inl l
  ·exact .inr ⟨k,c,e,cellK x c e _ z⟩
 ·obtain ⟨v,z⟩:=I.cell x c e
  exact ⟨v,cellK x c e v z⟩
 ·obtain ⟨m,⟨o,_,_,ho,_⟩,_⟩:=I.loc
  exact free _ o (λz=>(hch _ z).2.1 rfl) ho I.free
 ·obtain ⟨v,o,ho,hd⟩:=I.cell x c e
  exact free c o (λz=>(hch c z).2.2.1 x c e rfl) ho (I.freeC x c e)
 ·obtain ⟨e,n,ne,nf,d⟩:=I.pin p hp
  have nch:p.1∉ch:=λz=>(hch p.1 z).2.2.2 p hp rfl
  exact ⟨keep p.1 p.2 ne nf nch e n,free p.1 p.2 nch e n,ne,nf,d⟩
theorem Inv.un {t':Nat} (I:Inv X pins σ H s) (u:Un X.fs [] H H' s.heap h') (hok:HOk X.prog X.w H' h'):Inv X pins σ H' { s with heap:=h',toks:=t' }:=by
 obtain ⟨m,⟨o,es,ep,ho,r⟩,_⟩:=id I.loc
 obtain ⟨sl,hL⟩:=u.any ho I.free (by simp)
 exact I.step (g':=s.gens) (d':=s.drawn) (ch:=[]) (λ_ z=>nomatch z) (λb o _ hb _ e n=>u.keep b o e n hb (by simp)) (λb o _ hb _ e n=>u.slot b o e n hb (by simp)) (λb o _ e n=>u.free b o e n (by simp)) (λb o _ e=>u.there b o e (by simp)) u.tups u.frzs u.tbls (λm' hm=>by
  obtain ⟨o',es',ep',ho',r'⟩:=hm
  rw [ho] at ho';cases ho'
  exact ⟨_,es',ep',hL,r'⟩) hok I.bare
theorem Inv.call {g':Array GenState} {t':Nat} {d':Drawn} {ch:List Addr} (I:Inv X pins σ H s) (u:Un (frs X.stack) ch H H' s.heap h') (hok:HOk X.prog X.w H' h') (hg:AllBare g')
  (hch:∀ b∈ch,(b∈X.ex\/X.s₀.heap.objs.size<=b)/\b≠X.env.locals/\(∀ x c,X.env.cells.lookup x=some c->c≠b)/\∀ p∈X.pn++pins,p.1≠b) :
  Inv X pins σ H' { s with heap:=h',gens:=g',drawn:=d',toks:=t' }:=by
 obtain ⟨m,⟨o,es,ep,ho,r⟩,_⟩:=id I.loc
 obtain ⟨sl,hL⟩:=u.any ho I.free λz=>(hch _ z).2.1 rfl
 exact I.step (ch:=ch) hch (λb o hL hb hc e n=>u.keep b o e n (λz=>(zUg.mp (I.stkSub b z)).elim hL hb) hc) (λb o _ _ hc e n=>u.any e n hc) (λb o hc e n=>u.free b o e n hc) (λb o hc e=>u.there b o e hc) u.tups u.frzs u.tbls (λm' hm=>by
  obtain ⟨o',es',ep',ho',r'⟩:=hm
  rw [ho] at ho';cases ho'
  exact ⟨_,es',ep',hL,r'⟩) hok hg
theorem Inv.turned {t':Nat} {it:Addr} (I:Inv X pins σ H s) (k:∀ b o,b≠it->s.heap.get? b=some o->h'.get? b=some o) (hn:H it=none) (hL:it≠X.env.locals)
  (h1:it∈X.ex\/X.s₀.heap.objs.size<=it) (h2:∀ x c,X.env.cells.lookup x=some c->c≠it) (h3:∀ p∈X.pn++pins,p.1≠it):Inv X pins σ H { s with heap:=h',toks:=t' }:=by
 have nit:∀ b u,H b=some u->b≠it:=λb u e z=>by rw [z,hn] at e;cases e
 refine I.step (g':=s.gens) (d':=s.drawn) (ch:=[it]) (λb hb=>?_) (λb o _ _ hc e _=>k b o (λz=>hc (by simp [z])) e) (λb o _ _ hc e _=>⟨o.slots,k b o (λz=>hc (by simp [z])) e⟩) (λ_ _ _ _ n=>n)
  (λb o hc e=>⟨o,k b o (λz=>hc (by simp [z])) e⟩) (λ_ _ e=>e) (λ_ _ _ e=>e) (λb ps e=>⟨#[],by rw [e];simp⟩) (λm hm=>?_) (λb u e=>?_) I.bare
 ·have e:b=it:=by simpa using hb
  subst e
  exact ⟨h1,hL,h2,h3⟩
 ·obtain ⟨o,es,ep,ho,r⟩:=hm
  exact ⟨o,es,ep,k _ o (Ne.symm hL) ho,r⟩
 ·refine (I.hok b u e).stay (λc v hc q=>k c v ?_ q) (λ_ q=>q) λ_ _ q=>q
  rcases hc with z|z
  ·rw [z];exact nit b u e
  ·exact nit c _ z
theorem Inv.tok (I:Inv X pins σ H s) (t:Nat):Inv X pins σ H { s with toks:=t }:=I.un (h':=s.heap) (t':=t) Un.refl I.hok
theorem Inv.kept {t':Nat} (I:Inv X pins σ H s) (k:∀ b u,s.heap.get? b=some u->h'.get? b=some u):Inv X pins σ H { s with heap:=h',toks:=t' }:=I.un (Un.kept k) (I.hok.kept k)
theorem Inv.laid {a:Addr} {o:HO} {t':Nat} (I:Inv X pins σ H s) (k:∀ b u,s.heap.get? b=some u->h'.get? b=some u) (hp:s.heap.objs.size<=a) (new:zAC X.prog X.w (upd H a o) h' a o) :
  Inv X pins σ (upd H a o) { s with heap:=h',toks:=t' }:=I.un (Un.laid k hp (I.hok.fresh hp)) (I.hok.laid k hp new)
theorem Inv.write {x e:Addr} {o:HO} {t':Nat} (I:Inv X pins σ H s) (mu:Mut (H x)) (he:e=x\/H e=some (.own x)) (k:∀ b u,b≠e->s.heap.get? b=some u->h'.get? b=some u) (heo:∃ u,h'.get? e=some u)
  (new:zAC X.prog X.w (upd H x o) h' x o):Inv X pins σ (upd H x o) { s with heap:=h',toks:=t' }:=I.un (Un.write mu he k heo) (I.hok.write mu he k heo new)
theorem Inv.pins_of {pins':PNt} (I:Inv X pins σ H s) (h:∀ p∈pins',s.heap.get? p.1=some p.2/\H p.1=none/\p.1≠X.env.locals/\p.1∉X.fs/\∀ v,p.2.data≠.cell v):Inv X pins' σ H s:=
 ⟨I.ok,I.os,I.bare,I.base,I.loc,I.cell,I.free,I.freeC,λp hp=>(zUj.mp hp).elim (λz=>I.pin p (zVV _ z)) (h p),I.hok,I.len⟩
theorem zJL {N:List Str} (hN:N.Nodup) {i j:Nat} {x:Str} (a:N[i]?=some x) (b:N[j]?=some x):i=j:=by
 obtain ⟨h1,e1⟩:=zUs.mp a
 obtain ⟨h2,e2⟩:=zUs.mp b
 exact (List.getElem_inj hN).mp (e1.trans e2.symm)
theorem zHE {M:Model} {A:Around} {E:VSt} {i:Nat} {x:Str} {v:V} {u:Value} {Q:Unit->Shared->Prop} (I:Inv X pins σ H s) (hN:X.N.Nodup) (hi:X.N[i]?=some x) (hx:Loc X.env.scope x) (r:yr v u)
  (h:∀ s',Inv X pins (σ.set i (some v)) H s'->(∃ a,Heap.SameBut a s.heap s'.heap/\(a=X.env.locals\/X.env.cells.lookup x=some a))->Q () s') (hf:X.fn x=true\/X.env.scope.names.lookup x=some .local:=by first|exact .inl rfl|exact .inr rfl|assumption):wpAny M A (storeName X.env x u) Q E s:=by
 obtain ⟨m,hn,hl⟩:=id I.loc
 have hcls:(X.env.scope.kind == .class || (X.env.scope.kind == .module && X.env.locals != X.env.globals))=false:=by rw [I.ok.kind];rfl
 have hiσ:i<σ.length:=by rw [I.len];exact (zUs.mp hi).1
 have cne:=I.cne
 have tracked:∀ {a:Addr} {h':Heap},(∃ o,s.heap.get? a=some o/\H a=none)->Heap.SameBut a s.heap h'->HOk X.prog X.w H h':=λ{a h'} ha hs b ob e=>by
  obtain ⟨_,_,hfree⟩:=ha
  refine (I.hok b ob e).stay (λc w' hc q=>(hs.2 c ?_).trans q) (λ_ q=>q) λ_ _ q=>q
  rintro rfl
  rcases hc with rfl|hc
  ·rw [hfree] at e;cases e
  ·rw [hfree] at hc;cases hc
 rcases hx with hk|hk
 ·refine wpAny_storeName_local hk hn (λh' hn' hs=>?_) hcls
  obtain ⟨oL,_,_,hoL,_⟩:=id hn
  refine h _ ⟨I.ok,I.os,I.bare,⟨λb o e n hb hx=>?_,λb o e n hb hx=>?_,I.base.free,λb o e hx=>?_,I.base.tups,I.base.frzs,I.base.tbls⟩,⟨_,hn',λj y v' e1 e2 e3=>?_⟩,λy c e=>?_,I.free,I.freeC,λp hp=>?_,tracked ⟨oL,hoL,I.free⟩ hs,by simpa using I.len⟩ ⟨_,hs,.inl rfl⟩
  ·exact (hs.2 b (zU0 (zUm (zUo e) I.ok.above))).trans (I.base.keep b o e n hb hx)
  ·obtain ⟨sl,e1⟩:=I.base.slot b o e n hb hx
   exact ⟨sl,(hs.2 b (zU0 (zUm (zUo e) I.ok.above))).trans e1⟩
  ·obtain ⟨o',e1⟩:=I.base.there b o e hx
   exact ⟨o',(hs.2 b (zU0 (zUm (zUo e) I.ok.above))).trans e1⟩
  ·by_cases hj:j=i
   ·subst hj
    rw [hi] at e1;cases e1
    rw [zVG hiσ] at e2
    cases e2
    exact ⟨u,r,.inl ⟨hk,by simp⟩⟩
   ·rw [zU2 (Ne.symm hj)] at e2
    obtain ⟨u',r',q⟩:=hl j y v' e1 e2 e3
    refine ⟨u',r',?_⟩
    rcases q with ⟨k,e⟩|⟨k,c,e,z⟩
    ·refine .inl ⟨k,?_⟩
     have:y≠x:=λe=>hj (zJL hN e1 (e ▸ hi))
     simp [this,e]
    ·exact .inr ⟨k,c,e,z.sameBut hs (cne y c e)⟩
  ·obtain ⟨w',z⟩:=I.cell y c e
   exact ⟨w',z.sameBut hs (cne y c e)⟩
  ·obtain ⟨e,n,ne,nf,d⟩:=I.pin p hp
   exact ⟨(hs.2 p.1 ne).trans e,n,ne,nf,d⟩
 ·have hfn:X.fn x=true:=by
   rcases hf with z|z
   ·exact z
   ·rw [z] at hk;cases hk
  obtain ⟨c,hc⟩:=I.ok.has x (.inl hk)
  obtain ⟨w',z⟩:=I.cell x c hc
  refine wpAny_storeName_cell I.ok.kind hk hc z (λh' hc' hs=>?_)
  obtain ⟨oc,hoc,hocd⟩:=id z
  refine h { s with heap:=h' } ⟨I.ok,I.os,I.bare,⟨λb o e n hb hx=>?_,λb o e n hb hx=>?_,I.base.free,λb o e hx=>?_,I.base.tups,I.base.frzs,I.base.tbls⟩,⟨m,hn.sameBut hs (Ne.symm (cne x c hc)),λj y v' e1 e2 e3=>?_⟩,λy c' e=>?_,I.free,I.freeC,λp hp=>?_,tracked ⟨oc,hoc,I.freeC x c hc⟩ hs,by simpa using I.len⟩ ⟨c,hs,.inr hc⟩
  ·exact (hs.2 b (zU0 (zUm (zUo e) (I.ok.cab x c hfn hc)))).trans (I.base.keep b o e n hb hx)
  ·obtain ⟨sl,e1⟩:=I.base.slot b o e n hb hx
   exact ⟨sl,(hs.2 b (zU0 (zUm (zUo e) (I.ok.cab x c hfn hc)))).trans e1⟩
  ·obtain ⟨o',e1⟩:=I.base.there b o e hx
   exact ⟨o',(hs.2 b (zU0 (zUm (zUo e) (I.ok.cab x c hfn hc)))).trans e1⟩
  ·by_cases hj:j=i
   ·subst hj
    rw [hi] at e1;cases e1
    rw [zVG hiσ] at e2
    cases e2
    exact ⟨u,r,.inr ⟨.inl hk,c,hc,hc'⟩⟩
   ·rw [zU2 (Ne.symm hj)] at e2
    obtain ⟨u',r',q⟩:=hl j y v' e1 e2 e3
    refine ⟨u',r',?_⟩
    rcases q with q|⟨k,c',e,z'⟩
    ·exact .inl q
    ·refine .inr ⟨k,c',e,z'.sameBut hs ?_⟩
     rintro rfl
     exact hj (zJL hN e1 (I.ok.inj _ _ _ e hc ▸ hi))
  ·by_cases hcc:c'=c
   ·subst hcc;exact ⟨_,hc'⟩
   ·obtain ⟨w2,z2⟩:=I.cell y c' e
    exact ⟨w2,z2.sameBut hs hcc⟩
  ·obtain ⟨e,n,ne,nf,d⟩:=I.pin p hp
   refine ⟨(hs.2 p.1 ?_).trans e,n,ne,nf,d⟩
   intro q
   rw [q,hoc] at e
   have q':oc=p.2:=zVY e
   exact d w' (by rw [<- q'];exact hocd)
theorem zD9 {M:Model} {A:Around} {E:VSt} {i:Nat} {x:Str} {v:V} {u:Value} {Q:Unit->Shared->Prop} (I:Inv X pins σ H s) (hN:X.N.Nodup) (hi:X.N[i]?=some x) (hx:Loc X.env.scope x) (r:yr v u)
  (h:∀ s',Inv X pins (σ.set i (some v)) H s'->Q () s') (hf:X.fn x=true\/X.env.scope.names.lookup x=some .local:=by first|exact .inl rfl|exact .inr rfl|assumption):wpAny M A (storeName X.env x u) Q E s:=
 zHE I hN hi hx r (λs' I' _=>h s' I') hf
theorem Inv.call' {s':Shared} {ch:List Addr} (I:Inv X pins σ H s) (ho:s'.os=s.os) (u:Un (frs X.stack) ch H H' s.heap s'.heap) (hok:HOk X.prog X.w H' s'.heap) (hg:AllBare s'.gens)
  (hch:∀ b∈ch,(b∈X.ex\/X.s₀.heap.objs.size<=b)/\b≠X.env.locals/\(∀ x c,X.env.cells.lookup x=some c->c≠b)/\∀ p∈X.pn++pins,p.1≠b):Inv X pins σ H' s':=by
 obtain ⟨h',g',d',t',o'⟩:=s'
 have e:o'=s.os:=ho
 subst e
 exact I.call (g':=g') (t':=t') (d':=d') u hok hg hch
end
abbrev XK:=Value->Option Addr->Hp->Prop
abbrev St:=List (Option V)
abbrev VK:=V->Hp->Prop
abbrev TE:=St->Hp->VK->Prop
abbrev TT:=St->Hp->(Bool->Hp->Prop)->Prop
abbrev TA:=St->Hp->(List V->Hp->Prop)->Prop
structure zLI where
 nx:St->Hp->Prop
 rt:VK
 bk:St->Hp->Prop:=λ_ _=>False
 ct:St->Hp->Prop:=λ_ _=>False
abbrev TS:=zLI->St->Hp->Prop
def EP (X:Cx) (pins:PNt) (σ:St) (Q:VK) (u:Value) (s':Shared):Prop:=∃ v H',Inv X pins σ H' s'/\yr v u/\Q v H'
def TP (X:Cx) (pins:PNt) (σ:St) (Q:Bool->Hp->Prop) (b:Bool) (s':Shared):Prop:=∃ H',Inv X pins σ H' s'/\Q b H'
def AP (X:Cx) (pins:PNt) (σ:St) (Q:List V->Hp->Prop) (us:List Value) (s':Shared):Prop:=∃ vs H',Inv X pins σ H' s'/\yP vs us/\Q vs H'
def SP (X:Cx) (pins:PNt) (D:zLI) (f:Flow) (s':Shared):Prop:=
 match f with
 |.next=>∃ σ' H',Inv X pins σ' H' s'/\D.nx σ' H'
 |.brk=>∃ σ' H',Inv X pins σ' H' s'/\D.bk σ' H'
 |.cont=>∃ σ' H',Inv X pins σ' H' s'/\D.ct σ' H'
 |.ret u=>∃ v σ' H',Inv X pins σ' H' s'/\yr v u/\D.rt v H'
def PE (X:Cx) (e:Expr) (t:TE):Prop:=
 ∀ (pins:PNt) (s:Shared) (σ:St) (H:Hp) (Q:VK),Inv X pins σ H s->t σ H Q->wpAny (model X.prog X.w) X.A (eval e X.env) (EP X pins σ Q) X.xe s
def PT (X:Cx) (e:Expr) (t:TT):Prop:=
 ∀ (pins:PNt) (s:Shared) (σ:St) (H:Hp) (Q:Bool->Hp->Prop),Inv X pins σ H s->t σ H Q->wpAny (model X.prog X.w) X.A (isTrue e X.env (eval e X.env)) (TP X pins σ Q) X.xe s
def PW (X:Cx) (e:Expr) (t:TT):Prop:=
 ∀ (whole:Sem Value) (pins:PNt) (s:Shared) (σ:St) (H:Hp) (Q:Bool->Hp->Prop),Inv X pins σ H s->t σ H Q->wpAny (model X.prog X.w) X.A (isTrue e X.env whole) (TP X pins σ Q) X.xe s
theorem PW.pt {X:Cx} {e:Expr} {t:TT} (h:PW X e t):PT X e t:=h _
def PA (X:Cx) (es:List Expr) (t:TA):Prop:=
 ∀ (pos:Pos) (pins:PNt) (s:Shared) (σ:St) (H:Hp) (Q:List V->Hp->Prop),Inv X pins σ H s->t σ H Q->wpAny (model X.prog X.w) X.A (spliced (backTo pos (starEach es X.env))) (AP X pins σ Q) X.xe s
def PS (X:Cx) (st:Stmt) (t:TS):Prop:=
 ∀ (pins:PNt) (s:Shared) (σ:St) (H:Hp) (D:zLI),Inv X pins σ H s->t D σ H->wpAny (model X.prog X.w) X.A (exec st X.env) (SP X pins D) X.xe s
def PSs (X:Cx) (st:List Stmt) (t:TS):Prop:=
 ∀ (pins:PNt) (s:Shared) (σ:St) (H:Hp) (D:zLI),Inv X pins σ H s->t D σ H->wpAny (model X.prog X.w) X.A (execs st X.env) (SP X pins D) X.xe s
theorem thn {α:Type} {t:Sem α} {Q Q':α->Shared->Prop} {M:Model} {A:Around} {E:VSt} {s:Shared} (h:wpAny M A t Q E s) (hQ:∀ a s,Q a s->Q' a s):wpAny M A t Q' E s:=zVM h hQ λ_ _ x=>x
end L2
namespace L2
open PySem PySem.Spec PyProof.Rows
section
variable {X:Cx}
theorem bin {a b:Expr} {ta tb:TE} (ha:PE X a ta) (hb:PE X b tb) {pins:PNt} {s:Shared} {σ:St} {H:Hp} {R:V->V->Hp->Prop} (I:Inv X pins σ H s) (h:ta σ H λx H1=>tb σ H1 λy H2=>R x y H2)
  {α:Type} {Q:α->Shared->Prop} {f:Value->Value->Sem α}
  (hf:∀ v u s2 x y H2,Inv X pins σ H2 s2->yr x v->yr y u->R x y H2->wpAny (model X.prog X.w) X.A (f v u) Q X.xe s2) :
  wpAny (model X.prog X.w) X.A (eval a X.env) (λv s₁=>wpAny (model X.prog X.w) X.A (eval b X.env) (λu s₂=>wpAny (model X.prog X.w) X.A (f v u) Q X.xe s₂) X.xe s₁) X.xe s:=by
 refine thn (ha pins s σ H _ I h) λv s1 zz=>?_
 obtain ⟨x,H1,I1,r1,q1⟩:=zz
 refine thn (hb pins s1 σ H1 _ I1 q1) λu s2 zz=>?_
 obtain ⟨y,H2,I2,r2,q2⟩:=zz
 exact hf v u s2 x y H2 I2 r1 r2 q2
noncomputable def zBi (i:Nat):TE:=λσ H Q=>∃ v,σ[i]?=some (some v)/\Q v H
noncomputable def tC (v:V):TE:=λ_ H Q=>Q v H
theorem zSY {i:Nat} {x:Str} {pos:Pos} (hN:X.N[i]?=some x) (hv:Vis X.env.scope x) (hd:(x == ("__debug__" : Str))=false:=by decide) (hcd:(x == ("__classdict__" : Str))=false:=by decide):PE X (.Name x pos) (zBi i):=by
 intro pins s σ H Q I h
 obtain ⟨v,e,h⟩:=h
 obtain ⟨m,hn,hl⟩:=I.loc
 obtain ⟨u,r,l⟩:=hl i x v hN e hv
 have fin:EP X pins σ Q u s:=⟨v,H,I,r,h⟩
 rcases l with ⟨hk,hm⟩|⟨hk,c,hc,hcell⟩
 ·exact wpAny_Name (wpAny_loadName_local I.ok.kind hk hn hm fin) hd
 ·rcases hk with hk|hk
  ·exact wpAny_Name (wpAny_loadName_cell I.ok.kind hk hc hcell fin) hd
  ·exact wpAny_Name (wpAny_loadName_free I.ok.kind hk hc hcell fin hcd) hd
theorem zPW {i j pos}:PE X (.Constant (.int i) j pos) (tC (.int i)):=λ_ _ _ H _ I h=>wpAny_Constant_int ⟨.int i,H,I.tok _,⟨_,rfl⟩,h⟩
theorem pe_bl {b j pos}:PE X (.Constant (.bool b) j pos) (tC (.bl b)):=λ_ _ _ H _ I h=>Constant_bool ⟨.bl b,H,I,rfl,h⟩
theorem zSZ {j pos}:PE X (.Constant .none j pos) (tC .non):=λ_ _ _ H _ I h=>Constant_none ⟨.non,H,I,rfl,h⟩
theorem zPX {x j pos}:PE X (.Constant (.str x) j pos) (tC (.str x)):=λ_ _ _ H _ I h=>Calls.Constant_str ⟨.str x,H,I.tok _,⟨_,rfl⟩,h⟩
def Gl (X:Cx) (x:Str):Prop:=X.env.kindOf x=some .globalImplicit
theorem zGJ {E:VSt} {pins:PNt} {s:Shared} {σ:St} {H:Hp} {x:Str} {u:Value} {pos:Pos} {Q:VSt} (I:Inv X pins σ H s) (hg:Gl X x) (hm:X.mg x=some u) (h:Q u s)
  (hd:(x == ("__debug__" : Str))=false:=by decide):wpAny (model X.prog X.w) X.A (eval (.Name x pos) X.env) Q E s:=
 Calls.Name_function_global I.ok.kind hg (Calls.loadGlobal_global (by rw [I.ok.glob];exact I.mod.glob.keeps I.bk) hm h) hd
theorem zFf {E:VSt} {pins:PNt} {s:Shared} {σ:St} {H:Hp} {x:Str} {u:Value} {pos:Pos} {Q:VSt} (I:Inv X pins σ H s) (hg:Gl X x) (hm:X.mg x=none) (hv:bootBuiltins x=some u) (h:Q u s)
  (hn:x ≠ "__name__":=by decide) (hd:(x == ("__debug__" : Str))=false:=by decide):wpAny (model X.prog X.w) X.A (eval (.Name x pos) X.env) Q E s:=by
 obtain ⟨mb,h1,h2⟩:=I.mod.blt
 exact Calls.Name_function_global I.ok.kind hg (Calls.loadGlobal_builtin (by rw [I.ok.glob];exact I.mod.glob.keeps I.bk) hm (by rw [I.ok.blt];exact h1.keeps I.bk) ((h2 x hn).trans hv) h) hd
theorem zQG {x:Str} {v:V} {u:Value} {pos:Pos} (hg:Gl X x) (hm:X.mg x=none) (hv:bootBuiltins x=some u) (r:yr v u) (hn:x ≠ "__name__":=by decide) (hd:(x == ("__debug__" : Str))=false:=by decide):PE X (.Name x pos) (tC v):=
 λ_ _ _ H _ I h=>zFf I hg hm hv ⟨v,H,I,r,h⟩ hn hd
noncomputable def t2I (ta tb:TE) (k:Int->Int->Hp->Prop):St->Hp->Prop:=λσ H=>ta σ H λx H1=>tb σ H1 λy H2=>∃ i j,x = .int i/\y = .int j/\k i j H2
variable {a b:Expr} {ta tb:TE} {pos:Pos}
def PC (X:Cx) (op:CmpOp) (a b:Expr) (t:TE):Prop:=
 ∀ (pins:PNt) (s:Shared) (σ:St) (H:Hp) (Q:VK),Inv X pins σ H s->t σ H Q ->
  wpAny (model X.prog X.w) X.A (eval a X.env) (λv s₁=>wpAny (model X.prog X.w) X.A (eval b X.env) (λu s₂=>wpAny (model X.prog X.w) X.A (compareOp op v u) (EP X pins σ Q) X.xe s₂) X.xe s₁) X.xe s
theorem zJM (b:Expr) {op:CmpOp} (h:op≠.In) (h2:op≠.NotIn):behindInMarks op b=false:=by
 have e1:(op == CmpOp.In)=false:=by cases op<;>first|rfl|exact absurd rfl h
 have e2:(op == CmpOp.NotIn)=false:=by cases op<;>first|rfl|exact absurd rfl h2
 cases b<;>simp [behindInMarks,e1,e2]
noncomputable def tCmp (p:Int->Int->Bool) (ta tb:TE):TE:=λσ H Q=>t2I ta tb (λi j H2=>Q (.bl (p i j)) H2) σ H
abbrev tGt:TE->TE->TE:=tCmp λi j=>decide (j<i)
noncomputable def tB (t:TE):TT:=λσ H Q=>t σ H λx H1=>∃ c,x = .bl c/\Q c H1
theorem zSa {op:CmpOp} {t:TE} (h:PC X op a b t) (h1:behindInMarks op b=false:=by first|exact zJM _ (by decide) (by decide)|rfl):PE X (.Compare a [op] [b] pos) t:=λpins s σ H Q I hw=>wpAny_Compare1 (h pins s σ H Q I hw) h1
theorem zPY {op:CmpOp} {t:TE} (h:PC X op a b t) (h1:behindInMarks op b=false:=by first|exact zJM _ (by decide) (by decide)|rfl):PT X (.Compare a [op] [b] pos) (tB t):=by
 intro pins s σ H Q I hw
 refine wpAny_isTrue_Compare1 (thn (h pins s σ H _ I hw) λv s1 h1=>thn h1 λu s2 h2=>thn h2 λc s3 ⟨x,H1,I1,r1,q1⟩=>?_) h1
 obtain ⟨d,rfl,q⟩:=q1
 cases r1
 exact zVz ⟨H1,I1,q⟩
variable {tA tB':TT} {rest:List Expr}
noncomputable def tAnd (t u:TT):TT:=λσ H Q=>t σ H λc H1=>if c=true then u σ H1 Q else Q false H1
noncomputable def tOr (t u:TT):TT:=λσ H Q=>t σ H λc H1=>if c=true then Q true H1 else u σ H1 Q
noncomputable def tNot (t:TT):TT:=λσ H Q=>t σ H λc H1=>Q (!c) H1
theorem zQH (ha:PT X a tA):PW X (.BoolOp .And [a] pos) tA:=by
 intro wh pins s σ H Q I h
 refine isTrue_and (thn (ha pins s σ H Q I h) λc s1 e=>?_)
 cases c with
 |true=>exact isTrue_and_nil e
 |false=>exact e
theorem zSb (ha:PT X a tA):PW X (.BoolOp .Or [a] pos) tA:=by
 intro wh pins s σ H Q I h
 refine isTrue_or (thn (ha pins s σ H Q I h) λc s1 e=>?_)
 cases c with
 |false=>exact isTrue_or_nil e
 |true=>exact e
theorem zSc (ha:PT X a tA) (hb:PW X (.BoolOp .And (b::rest) pos) tB'):PW X (.BoolOp .And (a::b::rest) pos) (tAnd tA tB'):=by
 intro wh pins s σ H Q I h
 refine isTrue_and (thn (ha pins s σ H _ I h) λc s1 zz=>?_)
 obtain ⟨H1,I1,q1⟩:=zz
 cases c with
 |true=>exact hb wh pins s1 σ H1 Q I1 q1
 |false=>exact ⟨H1,I1,q1⟩
theorem pw_or (ha:PT X a tA) (hb:PW X (.BoolOp .Or (b::rest) pos) tB'):PW X (.BoolOp .Or (a::b::rest) pos) (tOr tA tB'):=by
 intro wh pins s σ H Q I h
 refine isTrue_or (thn (ha pins s σ H _ I h) λc s1 zz=>?_)
 obtain ⟨H1,I1,q1⟩:=zz
 cases c with
 |true=>exact ⟨H1,I1,q1⟩
 |false=>exact hb wh pins s1 σ H1 Q I1 q1
theorem zSd (ha:PT X a tA):PT X (.UnaryOp .Not a pos) (tNot tA):=by
 intro pins s σ H Q I h
 exact isTrue_not (ha pins s σ H (λc H1=>Q (!c) H1) I h)
noncomputable def tAndV (ta tb:TE):TE:=λσ H Q=>ta σ H λx H1=>∃ c,x = .bl c/\if c=true then tb σ H1 Q else Q (.bl false) H1
noncomputable def tOrV (ta tb:TE):TE:=λσ H Q=>ta σ H λx H1=>∃ c,x = .bl c/\if c=true then Q (.bl true) H1 else tb σ H1 Q
noncomputable def tNotV (ta:TE):TE:=λσ H Q=>ta σ H λx H1=>∃ c,x = .bl c/\Q (.bl (!c)) H1
theorem zSe {op} {t:TE} (h:PE X a t):PE X (.BoolOp op [a] pos) t:=λpins s σ H Q I hw=>BoolOp_one (h pins s σ H Q I hw)
theorem zSf (ha:PE X a ta) (hb:PE X (.BoolOp .And (b::rest) pos) tb):PE X (.BoolOp .And (a::b::rest) pos) (tAndV ta tb):=by
 intro pins s σ H Q I h
 refine BoolOp_and (thn (ha pins s σ H _ I h) λv s1 zz=>?_)
 obtain ⟨x,H1,I1,r1,q1⟩:=zz
 obtain ⟨c,rfl,q1⟩:=q1
 cases r1
 refine zVz ?_
 cases c with
 |true=>exact hb pins s1 σ H1 Q I1 q1
 |false=>exact ⟨.bl false,H1,I1,rfl,q1⟩
theorem pe_or (ha:PE X a ta) (hb:PE X (.BoolOp .Or (b::rest) pos) tb):PE X (.BoolOp .Or (a::b::rest) pos) (tOrV ta tb):=by
 intro pins s σ H Q I h
 refine BoolOp_or (thn (ha pins s σ H _ I h) λv s1 zz=>?_)
 obtain ⟨x,H1,I1,r1,q1⟩:=zz
 obtain ⟨c,rfl,q1⟩:=q1
 cases r1
 refine zVz ?_
 cases c with
 |false=>exact hb pins s1 σ H1 Q I1 q1
 |true=>exact ⟨.bl true,H1,I1,rfl,q1⟩
theorem zSg (ha:PE X a ta):PE X (.UnaryOp .Not a pos) (tNotV ta):=by
 intro pins s σ H Q I h
 refine UnaryOp_ (thn (ha pins s σ H _ I h) λv s1 zz=>?_)
 obtain ⟨x,H1,I1,r1,q1⟩:=zz
 obtain ⟨c,rfl,q1⟩:=q1
 cases r1
 exact not_of (zVz ⟨.bl (!c),H1,I1,rfl,q1⟩)
noncomputable def tIf (t:TT) (ta tb:TE):TE:=λσ H Q=>t σ H λc H1=>if c=true then ta σ H1 Q else tb σ H1 Q
theorem zNj {c:Expr} (hc:PT X c tA) (ha:PE X a ta) (hb:PE X b tb):PE X (.IfExp c a b pos) (tIf tA ta tb):=by
 intro pins s σ H Q I h
 refine wpAny_IfExp (thn (hc pins s σ H _ I h) λd s1 zz=>?_)
 obtain ⟨H1,I1,q1⟩:=zz
 cases d with
 |true=>exact ha pins s1 σ H1 Q I1 q1
 |false=>exact hb pins s1 σ H1 Q I1 q1
end
end L2
namespace L2
open PySem PySem.Spec PyProof.Rows
def SqL (K:Fg) (H:Hp) (a:Addr) (xs:List V):Prop:=
 Rd H a (.lst xs) \/
  ∃ (o:Obj) (its:Array Value) (n:Nat),K.lookup a=some o/\o.cls = .type "list"/\o.dict=none/\o.data = .seq its n/\its.size<=sizeLine/\yP xs its.toList
def SqT (K:Fg) (H:Hp) (a:Addr) (xs:List V):Prop:=
 Rd H a (.tup xs) \/
  ∃ (o:Obj) (its:Array Value) (n:Nat),K.lookup a=some o/\o.cls = .type "tuple"/\o.dict=none/\o.data = .seq its n/\its.size<=sizeLine/\yP xs its.toList
noncomputable def absV:Value->Option V
 |.none=>some .non
 |.bool b=>some (.bl b)
 |.int i _=>some (.int i)
 |.str x _=>some (.str x)
 |.bytes b _=>some (.byt b)
 |.float b _=>some (.flt b)
 |.ref a=>some (.ref a)
 |.type n=>some (.ty n)
 |_=>none
theorem yr.abs {x:V} {u:Value} (r:yr x u):absV u=some x:=by
 cases x with
 |non=>cases r;rfl
 |bl _=>cases r;rfl
 |int _=>obtain ⟨t,rfl⟩:=r;rfl
 |str _=>obtain ⟨t,rfl⟩:=r;rfl
 |byt _=>obtain ⟨t,rfl⟩:=r;rfl
 |flt _=>obtain ⟨t,rfl⟩:=r;rfl
 |ref _=>cases r;rfl
 |ty _=>cases r;rfl
theorem yr.inj {x y:V} {u:Value} (r:yr x u) (q:yr y u):x=y:=zVY (r.abs.symm.trans q.abs)
theorem yP.inj:∀ {xs ys:List V} {us:List Value},yP xs us->yP ys us->xs=ys
 |_,_,_,.nil,.nil=>rfl
 |_,_,_,.cons r t,.cons r' t'=>by rw [r.inj r',yP.inj t t']
section
variable {X:Cx} {pins:PNt} {σ:St} {H:Hp} {s:Shared} {a:Addr} {xs ys:List V}
theorem SqL.of {K:Fg} (h:H a=some (.lst xs)):SqL K H a xs:=.inl (.inl h)
theorem SqT.of {K:Fg} (h:H a=some (.tup xs)):SqT K H a xs:=.inl (.inl h)
theorem Inv.list (I:Inv X pins σ H s) (h:SqL X.K H a xs):∃ its:List Value,yP xs its/\PlainL s.heap a its.toArray/\xs.length<=sizeLine:=by
 rcases h with h|⟨o,its,n,hk,hc,hd,hs,hz,r⟩
 ·obtain ⟨z,its,n,r,e⟩:=h.ok I.hok
  exact ⟨its,r,⟨_,n,e,rfl,rfl,rfl⟩,z⟩
 ·refine ⟨its.toList,r,⟨o,n,I.kIn a o hk,hc,hd,by simpa using hs⟩,?_⟩
  have e:=r.length
  simp only [zWV] at e
  omega
theorem Inv.tupleN (I:Inv X pins σ H s) (h:SqT X.K H a xs):∃ its:List Value,yP xs its/\zA6 s.heap a its.toArray/\xs.length<=sizeLine:=by
 rcases h with h|⟨o,its,n,hk,hc,hd,hs,hz,r⟩
 ·obtain ⟨z,its,r,p⟩:=h.ok I.hok
  exact ⟨its,r,p,z⟩
 ·refine ⟨its.toList,r,⟨o,I.kIn a o hk,hc,n,by simpa using hs,hd⟩,?_⟩
  have e:=r.length
  simp only [zWV] at e
  omega
theorem Inv.tuple (I:Inv X pins σ H s) (h:SqT X.K H a xs):∃ its:List Value,yP xs its/\IsTup s.heap a its.toArray/\xs.length<=sizeLine:=
 let ⟨its,r,p,z⟩:=I.tupleN h
 ⟨its,r,p.tup,z⟩
theorem Inv.list_inj (I:Inv X pins σ H s) (h:SqL X.K H a xs) (h':SqL X.K H a ys):xs=ys:=by
 obtain ⟨its,r,⟨o,n,e,_,_,d⟩,_⟩:=I.list h
 obtain ⟨its',r',⟨o',n',e',_,_,d'⟩,_⟩:=I.list h'
 rw [e] at e';cases e'
 rw [d] at d'
 injection d' with d1 _
 have:its=its':=by simpa using zVX Array.toList d1
 subst this
 exact r.inj r'
theorem Inv.tuple_inj (I:Inv X pins σ H s) (h:SqT X.K H a xs) (h':SqT X.K H a ys):xs=ys:=by
 obtain ⟨its,r,⟨o,e,_,n,d⟩,_⟩:=I.tuple h
 obtain ⟨its',r',⟨o',e',_,n',d'⟩,_⟩:=I.tuple h'
 rw [e] at e';cases e'
 rw [d] at d'
 injection d' with d1 _
 have:its=its':=by simpa using zVX Array.toList d1
 subst this
 exact r.inj r'
end
abbrev Cx.wish (X:Cx) (E:VSt):Cx:={ X with xe:=E }
abbrev Cx.nox (X:Cx):Cx:=X.wish λ_ _=>False
theorem Cx.Ok.wish {X:Cx} (ok:X.Ok) (E:VSt):(X.wish E).Ok:=
 ⟨ok.mod,ok.kind,ok.glob,ok.blt,ok.above,ok.inj,ok.has,ok.cab,ok.hd,ok.frames,ok.stk,ok.exf,ok.bs,ok.bsz,ok.noex,ok.exfs,ok.funs,ok.frf⟩
theorem Cx.Ok.unwish {X:Cx} {E:VSt} (ok:(X.wish E).Ok):X.Ok:=
 ⟨ok.mod,ok.kind,ok.glob,ok.blt,ok.above,ok.inj,ok.has,ok.cab,ok.hd,ok.frames,ok.stk,ok.exf,ok.bs,ok.bsz,ok.noex,ok.exfs,ok.funs,ok.frf⟩
section
variable {X:Cx} {pins:PNt} {σ:St} {H:Hp} {s:Shared} {E:VSt}
theorem Inv.wish (I:Inv X pins σ H s) (E:VSt):Inv (X.wish E) pins σ H s:=⟨I.ok.wish E,I.os,I.bare,I.base,I.loc,I.cell,I.free,I.freeC,I.pin,I.hok,I.len⟩
theorem Inv.unwish (I:Inv (X.wish E) pins σ H s):Inv X pins σ H s:=⟨I.ok.unwish,I.os,I.bare,I.base,I.loc,I.cell,I.free,I.freeC,I.pin,I.hok,I.len⟩
theorem SP.unwish {D:zLI} {f:Flow} {s':Shared} (h:SP (X.wish E) pins D f s'):SP X pins D f s':=by
 cases f with
 |next=>obtain ⟨σ',H',I,q⟩:=h;exact ⟨σ',H',I.unwish,q⟩
 |brk=>obtain ⟨σ',H',I,q⟩:=h;exact ⟨σ',H',I.unwish,q⟩
 |cont=>obtain ⟨σ',H',I,q⟩:=h;exact ⟨σ',H',I.unwish,q⟩
 |ret u=>obtain ⟨v,σ',H',I,r,q⟩:=h;exact ⟨v,σ',H',I.unwish,r,q⟩
theorem PSs.nox {st:List Stmt} {t:TS} (h:PSs X.nox st t):PSs X st t:=λpins s σ H D I hw=>
 zVM (h pins s σ H D (I.wish _) hw) (λ_ _ q=>q.unwish) λ_ _ z=>False.elim z
end
section
variable {X:Cx} {st:Stmt} {rest:List Stmt} {t u:TS} {e:Expr} {te:TE} {pos:Pos}
noncomputable def tNext:TS:=λD σ H=>D.nx σ H
noncomputable def tSeq (t u:TS):TS:=λD σ H=>t { D with nx:=u D } σ H
theorem zQI:PSs X [] tNext:=λ_ _ σ H _ I h=>zWM ⟨σ,H,I,h⟩
theorem zJN (h1:PS X st t) (h2:PSs X rest u):PSs X (st::rest) (tSeq t u):=by
 intro pins s σ H D I h
 refine wpAny_execs_cons (thn (h1 pins s σ H { D with nx:=u D } I h) λf s1 q=>?_)
 cases f with
 |next=>
  obtain ⟨σ',H',I',q⟩:=q
  exact h2 pins s1 σ' H' D I' q
 |ret v=>exact q
 |brk=>exact q
 |cont=>exact q
theorem zLJ (h1:PS X st t):PSs X [st] t:=by
 intro pins s σ H D I h
 refine wpAny_execs_cons (thn (h1 pins s σ H D I h) λf s1 q=>?_)
 cases f with
 |next=>exact zWM q
 |ret v=>exact q
 |brk=>exact q
 |cont=>exact q
noncomputable def tCont:TS:=λD σ H=>D.ct σ H
theorem zIV:PS X (.Continue pos) tCont:=λ_ _ σ H _ I h=>wpAny_Continue ⟨σ,H,I,h⟩
theorem Inv.quiet {pins:PNt} {σ:St} {H:Hp} {s:Shared} (I:Inv X pins σ H s):interactive X.env=false:=by simp [interactive,I.ok.kind]
noncomputable def tDrop (te:TE):TS:=λD σ H=>te σ H λ_ H1=>D.nx σ H1
theorem zBq (he:PE X e te) (hs:swapsWith e none pos.line X.env=pure false:=by rfl):PS X (.Expr e pos) (tDrop te):=by
 intro pins s σ H D I h
 exact wpAny_Expr_any (thn (he pins s σ H _ I h) λv s1 ⟨x,H1,I1,r1,q1⟩=>⟨σ,H1,I1,q1⟩) I.quiet hs
noncomputable def tRet (te:TE):TS:=λD σ H=>te σ H D.rt
theorem zJO (he:PE X e te):PS X (.Return (some e) pos) (tRet te):=by
 intro pins s σ H D I h
 exact wpAny_Return_some (thn (he pins s σ H _ I h) λv s1 ⟨x,H1,I1,r1,q1⟩=>⟨x,σ,H1,I1,r1,q1⟩)
noncomputable def tIfS (c:TT) (t u:TS):TS:=λD σ H=>c σ H λb H1=>if b=true then t D σ H1 else u D σ H1
theorem zSh {c:Expr} {a b:List Stmt} {tc:TT} (hc:PT X c tc) (ha:PSs X a t) (hb:PSs X b u):PS X (.If c a b pos) (tIfS tc t u):=by
 intro pins s σ H D I h
 refine wpAny_If (thn (hc pins s σ H _ I h) λd s1 zz=>?_)
 obtain ⟨H1,I1,q1⟩:=zz
 cases d with
 |true=>exact ha pins s1 σ H1 D I1 q1
 |false=>exact hb pins s1 σ H1 D I1 q1
noncomputable def zSi:TS:=λ_ _ _=>False
theorem zNk:PS X st zSi:=λ_ _ _ _ _ _ h=>h.elim
end
abbrev TG:=V->St->Hp->(St->Hp->Prop)->Prop
abbrev TGs:=List V->St->Hp->(St->Hp->Prop)->Prop
def PG (X:Cx) (target:Expr) (t:TG):Prop:=
 ∀ (pins:PNt) (s:Shared) (σ:St) (H:Hp) (v:V) (u:Value) (Q:St->Hp->Prop),Inv X pins σ H s->yr v u->t v σ H Q ->
  wpAny (model X.prog X.w) X.A (assign target X.env u) (λ_ s'=>∃ σ' H',Inv X pins σ' H' s'/\Q σ' H') X.xe s
def PGs (X:Cx) (ts:List Expr) (t:TGs):Prop:=
 ∀ (pins:PNt) (s:Shared) (σ:St) (H:Hp) (vs:List V) (us:List Value) (Q:St->Hp->Prop),Inv X pins σ H s->yP vs us->t vs σ H Q ->
  wpAny (model X.prog X.w) X.A (assignInOrder ((assignEach ts X.env).map (·.2)) us) (λ_ s'=>∃ σ' H',Inv X pins σ' H' s'/\Q σ' H') X.xe s
abbrev TSet:=V->V->V->Hp->(Hp->Prop)->Prop
def PSet (X:Cx) (t:TSet):Prop:=
 ∀ (pins:PNt) (s:Shared) (σ:St) (H:Hp) (o i v:V) (ov iv u:Value) (Q:Hp->Prop),Inv X pins σ H s->yr o ov->yr i iv->yr v u->t o i v H Q ->
  wpAny (model X.prog X.w) X.A (setItem ov iv u) (λ_ s'=>∃ H',Inv X pins σ H' s'/\Q H') X.xe s
section
variable {X:Cx} {pos:Pos}
noncomputable def zSj (i:Nat):TG:=λv σ H Q=>Q (σ.set i (some v)) H
theorem zQJ {i:Nat} {x:Str} (hN:X.N.Nodup) (hi:X.N[i]?=some x) (hx:Loc X.env.scope x) (hf:X.fn x=true\/X.env.scope.names.lookup x=some .local:=by first|exact .inl rfl|exact .inr rfl|assumption):PG X (.Name x pos) (zSj i):=by
 intro pins s σ H v u Q I r h
 exact wpAny_assign_Name (zD9 I hN hi hx r (λs' I'=>⟨_,H,I',h⟩) hf)
noncomputable def gNil:TGs:=λvs σ H Q=>vs = []/\Q σ H
noncomputable def gCons (t:TG) (u:TGs):TGs:=λvs σ H Q=>∃ v r,vs=v::r/\t v σ H λσ' H'=>u r σ' H' Q
theorem zQK:PGs X [] gNil:=by
 intro pins s σ H vs us Q I r h
 obtain ⟨e,h⟩:=h
 subst e
 cases r
 exact assignInOrder_nil ⟨σ,H,I,h⟩
theorem zNl {e:Expr} {es:List Expr} {t:TG} {u:TGs} (h1:PG X e t) (h2:PGs X es u)
  (hs:(assignEach (e::es) X.env).map (·.2)=assign e X.env::(assignEach es X.env).map (·.2):=by rfl):PGs X (e::es) (gCons t u):=by
 intro pins s σ H vs us Q I r h
 obtain ⟨v,vr,e1,h⟩:=h
 subst e1
 cases r with
 |cons r rr=>
  rw [hs]
  refine assignInOrder_cons (thn (h1 pins s σ H _ _ _ I r h) λ_ s1 zz=>?_)
  obtain ⟨σ1,H1,I1,q1⟩:=zz
  exact h2 pins s1 σ1 H1 _ _ Q I1 rr q1
noncomputable def gTup (K:Fg) (n:Nat) (t:TGs):TG:=λv σ H Q=>∃ a xs,v = .ref a/\SqT K H a xs/\xs.length=n/\t xs σ H Q
theorem zSk {es:List Expr} {k:Nat} {t:TGs} {n:Nat} (hc:X.calm=true) (h:PGs X es t)
  (hn:(assignEach es X.env).length=n:=by rfl) (hst:(assignEach es X.env).findIdx? (·.1)=none:=by rfl):PG X (.Tuple es k pos) (gTup X.K n t):=by
 intro pins s σ H v u Q I r hw
 obtain ⟨a,xs,e1,hq,hl,hw⟩:=hw
 subst e1
 cases r
 obtain ⟨its,rv,ht,hz⟩:=I.tuple hq
 refine assign_Tuple_tuple (I.ok.hd hc) ht (by simp [hn,<- hl,rv.length]) hst λh' hx=>?_
 have I1:Inv X pins σ H { s with heap:=h' }:=I.kept (t':=s.toks) λb o e=>hx b o (zU0 (zUo e)) e
 exact h pins _ σ H xs _ Q I1 (by simpa using rv) hw
noncomputable def gSub (to ti:TE) (t:TSet):TG:=λv σ H Q=>to σ H λo H1=>ti σ H1 λi H2=>t o i v H2 λH3=>Q σ H3
theorem zPZ {o i:Expr} {to ti:TE} {t:TSet} (ho:PE X o to) (hi:PE X i ti) (hs:PSet X t)
  (ha:∀ v,assign (.Subscript o i pos) X.env v=(do
   let ov <- holding [v] (eval o X.env)
   let iv <- holding [v,ov] (eval i X.env)
   standAt pos
   holding [v,ov,iv] (setItem ov iv v)
   release [v,ov,iv] []):=by intro _;rfl):PG X (.Subscript o i pos) (gSub to ti t):=by
 intro pins s σ H v u Q I r h
 rw [ha]
 refine zUe (zV5 (thn (ho pins s σ H _ I h) λov s1 zz=>?_))
 obtain ⟨x,H1,I1,r1,q1⟩:=zz
 refine zUe (zV5 (thn (hi pins s1 σ H1 _ I1 q1) λiv s2 zz=>?_))
 obtain ⟨y,H2,I2,r2,q2⟩:=zz
 refine zUe (wpAny_standAt (zUe (zV5 (thn (hs pins s2 σ H2 x y v ov iv u _ I2 r1 r2 r q2) λ_ s3 zz=>?_))))
 obtain ⟨H3,I3,q3⟩:=zz
 exact wpAny_release ⟨σ,H3,I3,q3⟩
noncomputable def tAsg (te:TE) (g:TG):TS:=λD σ H=>te σ H λx H1=>g x σ H1 D.nx
theorem zLK {tg e:Expr} {te:TE} {g:TG} (he:PE X e te) (hg:PG X tg g) (hs:swapsWithSole [tg] e pos.line X.env=pure false:=by rfl) (hw:swappedStores [tg] e X.env=pure none:=by rfl)
  (h1:(assignEach [tg] X.env).map (·.2) = [assign tg X.env]:=by rfl):PS X (.Assign [tg] e pos) (tAsg te g):=by
 intro pins s σ H D I h
 refine wpAny_Assign_stores (thn (he pins s σ H _ I h) λv s1 ⟨x,H1,I1,r1,q1⟩=>?_) hs hw
 rw [h1]
 exact thn (hg pins s1 σ H1 x v _ I1 r1 q1) λ_ s2 q=>q
theorem zDw {i:Nat} {x:Str} {e:Expr} {te:TE} {pos':Pos} (hN:X.N.Nodup) (hi:X.N[i]?=some x) (hx:Loc X.env.scope x) (he:PE X e te) (hs:swapsWith e (some (.Name x pos')) pos.line X.env=pure false:=by rfl) (hf:X.fn x=true\/X.env.scope.names.lookup x=some .local:=by first|exact .inl rfl|exact .inr rfl|assumption) :
  PS X (.Assign [.Name x pos'] e pos) (tAsg te (zSj i)):=by
 intro pins s σ H D I h
 refine wpAny_Assign_Name (thn (he pins s σ H _ I h) λv s1 ⟨y,H1,I1,r1,q1⟩=>?_) hs
 exact zD9 I1 hN hi hx r1 (λs2 I2=>⟨_,H1,I2,q1⟩) hf
end
section
variable {X:Cx} {pos:Pos}
noncomputable def zSl (c:TT) (tb:TS):TS:=λD σ H=>∃ W:Nat->St->Hp->Prop,(∃ m,W m σ H)/\∀ m σ H,W m σ H ->
 c σ H λb H1=>if b=true then ∃ N:St->Hp->Prop,(∀ σ' H',N σ' H'->∃ m',m' < m/\W m' σ' H')/\tb { D with nx:=N,ct:=N,bk:=D.nx } σ H1 else D.nx σ H1
theorem zJP {c:Expr} {body:List Stmt} {tc:TT} {tb:TS} (hp:PassesOwn (model X.prog X.w) X.A X.env X.xe) (hc:PT X c tc) (hb:PSs X body tb):PS X (.While c body [] pos) (zSl tc tb):=by
 intro pins s σ H D I h
 obtain ⟨W,⟨m0,w0⟩,turn⟩:=h
 refine wpAny_While (codeAny_whileLoop (λn s'=>∃ σ' H',Inv X pins σ' H' s'/\W n σ' H') ?_ m0 ⟨σ,H,I,w0⟩)
 rintro n s1 ⟨σ1,H1,I1,w1⟩
 refine zWD hp (thn (hc pins s1 σ1 H1 _ I1 (turn n σ1 H1 w1)) λb s2 zz=>?_)
 obtain ⟨H2,I2,q2⟩:=zz
 cases b with
 |true=>
  obtain ⟨N,hN,q2⟩:=q2
  rw [zUp rfl]
  refine zWD hp (thn (hb pins s2 σ1 H2 _ I2 q2) λf s3 q3=>?_)
  cases f with
  |next=>
   obtain ⟨σ3,H3,I3,n3⟩:=q3
   obtain ⟨m',hm,w3⟩:=hN σ3 H3 n3
   exact ⟨m',hm,σ3,H3,I3,w3⟩
  |cont=>
   obtain ⟨σ3,H3,I3,n3⟩:=q3
   obtain ⟨m',hm,w3⟩:=hN σ3 H3 n3
   exact ⟨m',hm,σ3,H3,I3,w3⟩
  |brk=>exact q3
  |ret v=>exact q3
 |false=>
  rw [zVD zU7]
  exact zWM ⟨σ1,H2,I2,q2⟩
end
structure It where
 go:Nat->Hp->Prop
 yld:Nat->Hp->V->Hp->Prop
 stop:Nat->Hp->Prop
def FpOk (X:Cx) (pins:PNt) (H:Hp) (b:Addr):Prop:=
 H b=none/\b≠X.env.locals/\b∉X.fs/\(b∈X.ex\/X.s₀.heap.objs.size<=b)/\(∀ x c,X.env.cells.lookup x=some c->c≠b)/\∀ p∈X.pn++pins,p.1≠b
theorem Inv.fpOk {X:Cx} {pins:PNt} {σ:St} {H H':Hp} {s:Shared} {b:Addr} (I:Inv X pins σ H s) (hb:s.heap.objs.size<=b) (hn:H' b=none):FpOk X pins H' b:=by
 refine ⟨hn,zW7 (zUm I.lt hb),I.nofs hb,.inr (zVF I.sz hb),λx c e z=>?_,λp hp z=>?_⟩
 ·obtain ⟨v,q⟩:=I.cell x c e
  exact absurd (zUm q.lt (by rw [z];exact hb)) (zVp _)
 ·exact absurd (zUm (zUo (I.pin p hp).1) (by rw [z];exact hb)) (zVp _)
structure zQL (P:Program) (w:World) (K:Fg) (tg:Expr) (J:It) (fp:List Addr) (it:Addr) (tn:Nat->Heap->Prop):Prop where
 mem:it∈fp
 obj:∀ i h,tn i h->∀ b∈fp,∃ o,h.get? b=some o/\∀ v,o.data≠.cell v
 keep:∀ i h h',tn i h->(∀ b∈fp,∀ o,h.get? b=some o->h'.get? b=some o)->tn i h'
 item:∀ (X:Cx),X.prog=P->X.w=w->X.K=K->X.calm=true->∀ (i:Nat) (pins:PNt) (s:Shared) (σ:St) (H:Hp) (E:VSt),Inv X pins σ H s->(∀ b∈fp,FpOk X pins H b)->tn i s.heap->J.go i H ->
  wpAny (model P w) X.A (pyNext (.ref it)) (λr s1=>∃ u,r=some u /\
   wpAny (model P w) X.A (letOwnedTupleGo tg (.ref it) u) (λ_ s2=>∃ x H',Inv X pins σ H' s2/\yr x u/\J.yld i H x H'/\tn (i+1) s2.heap/\∀ b∈fp,H' b=none) E s1) E s
 done:∀ (X:Cx),X.prog=P->X.w=w->X.K=K->X.calm=true->∀ (i:Nat) (pins:PNt) (s:Shared) (σ:St) (H:Hp) (E:VSt),Inv X pins σ H s->(∀ b∈fp,FpOk X pins H b)->tn i s.heap->J.stop i H ->
  wpAny (model P w) X.A (pyNext (.ref it)) (λr s1=>r=none/\Inv X pins σ H s1) E s
 self:∀ (A:Around) (i:Nat) (s:Shared) (Q:VSt) (E:VSt),tn i s.heap->Q (.ref it) s->wpAny (model P w) A (pyIter (.ref it)) Q E s
abbrev TI:=St->Hp->(It->Hp->Prop)->Prop
def PIE (X:Cx) (pins:PNt) (σ:St) (tg:Expr) (R:It->Hp->Prop) (itv:Value) (s2:Shared):Prop:=
 ∃ (it:Addr) (fp:List Addr) (tn:Nat->Heap->Prop) (J:It) (H':Hp),itv = .ref it/\Inv X pins σ H' s2/\zQL X.prog X.w X.K tg J fp it tn/\tn 0 s2.heap/\(∀ b∈fp,FpOk X pins H' b)/\R J H'
def PI (X:Cx) (tg iter:Expr) (wi:TI):Prop:=
 ∀ (pins:PNt) (s:Shared) (σ:St) (H:Hp) (R:It->Hp->Prop),Inv X pins σ H s->wi σ H R ->
  wpAny (model X.prog X.w) X.A (eval iter X.env) (λv s1=>wpAny (model X.prog X.w) X.A (pyIter v) (PIE X pins σ tg R) X.xe s1) X.xe s
theorem zQM {M:Model} {A:Around} {E:VSt} {s:Shared} {tg:Expr} {it:Addr} {u:Value} {o:Obj} {n:String} {vs:Array Value} {Q:Unit->Shared->Prop} (ho:s.heap.get? it=some o) (hc:o.cls = .type n) (hd:o.data = .fields vs)
  (hn : ["enumerate","zip","dict_itemiterator","dict_reverseitemiterator","odict_iterator","itertools.zip_longest","itertools.pairwise"].contains n=false) (hQ:Q () s):wpAny M A (letOwnedTupleGo tg (.ref it) u) Q E s:=by
 unfold letOwnedTupleGo
 cases tg<;>first
  |exact zUl hQ
  |(cases u<;>first
    |exact zUl hQ
    |(refine zUe (wpAny_load ho ?_)
      rw [hc,hd]
      show wpAny M A (if (["enumerate","zip","dict_itemiterator","dict_reverseitemiterator","odict_iterator","itertools.zip_longest","itertools.pairwise"].contains n && vs[0]? == some (rawInt _))=true then _ else _) Q E s
      rw [zVD (by intro h;rw [hn,Bool.false_and] at h;cases h)]
      exact zUl hQ))
noncomputable def Itl (K:Fg) (a:Addr):It:=
 ⟨λi H=>∃ xs x,SqL K H a xs/\xs[i]?=some x,λi H x H'=>H'=H/\∀ xs,SqL K H a xs->xs[i]?=some x,λi H=>∃ xs,SqL K H a xs/\xs.length<=i⟩
noncomputable def Itt (K:Fg) (a:Addr):It:=
 ⟨λi H=>∃ xs x,SqT K H a xs/\xs[i]?=some x,λi H x H'=>H'=H/\∀ xs,SqT K H a xs->xs[i]?=some x,λi H=>∃ xs,SqT K H a xs/\xs.length<=i⟩
noncomputable def Itr (lo:Int) (n:Nat):It:=⟨λi _=>i<n,λi H x H'=>H'=H/\x = .int (lo+i),λi _=>n<=i⟩
theorem zLL {P:Program} {w:World} {K:Fg} {tg:Expr} (a it:Addr):zQL P w K tg (Itl K a) [it] it (λi h=>h.IsListIter it a i) where
 mem:=by simp
 obj:=λi h st b hb=>by
  have e:b=it:=by simpa using hb
  subst e
  obtain ⟨o,e,c,d⟩:=st
  exact ⟨o,e,λv z=>by rw [d] at z;cases z⟩
 keep:=λi h h' st k=>st.at λo e=>k it (by simp) o e
 item:=by
  intro X hP hw hK hc i pins s σ H E I hf st hg
  subst hP hw hK
  obtain ⟨xs,x,hq,hx⟩:=hg
  obtain ⟨its,rv,p,hz⟩:=I.list hq
  obtain ⟨u,hu,ru⟩:=rv.get hx
  obtain ⟨f0,f1,f2,f3,f4,f5⟩:=hf it (by simp)
  refine wpAny_pyNext_list_item st p.isList (x:=u) (by simpa using hu) λh' st' sb=>?_
  have I1:Inv X pins σ H { s with heap:=h' }:=I.turned (t':=s.toks) (λb o hb e=>(sb.2 b hb).trans e) f0 f1 f3 f4 f5
  obtain ⟨o,e,c,d⟩:=id st'
  exact ⟨u,rfl,zQM (s:={ s with heap:=h' }) e c d (by decide) ⟨x,H,I1,ru,⟨rfl,λys hy=>by rw [I.list_inj hy hq];exact hx⟩,st',λb hb=>(hf b hb).1⟩⟩
 done:=by
  intro X hP hw hK hc i pins s σ H E I hf st hg
  subst hP hw hK
  obtain ⟨xs,hq,hx⟩:=hg
  obtain ⟨its,rv,p,hz⟩:=I.list hq
  obtain ⟨f0,f1,f2,f3,f4,f5⟩:=hf it (by simp)
  have hl:=rv.length
  exact wpAny_pyNext_list_end (I.ok.hd hc) st p.isList (by simp;omega) λh' eb=>⟨rfl,I.turned (t':=s.toks) (λb o hb e=>eb b o hb e) f0 f1 f3 f4 f5⟩
 self:=λ_ _ _ _ _ st h=>wpAny_pyIter_listiter st h
theorem zKL {P:Program} {w:World} {K:Fg} {tg:Expr} (a it:Addr):zQL P w K tg (Itt K a) [it] it (λi h=>h.IsTupleIter it a i) where
 mem:=by simp
 obj:=λi h st b hb=>by
  have e:b=it:=by simpa using hb
  subst e
  obtain ⟨o,e,c,d⟩:=st
  exact ⟨o,e,λv z=>by rw [d] at z;cases z⟩
 keep:=λi h h' st k=>st.at λo e=>k it (by simp) o e
 item:=by
  intro X hP hw hK hc i pins s σ H E I hf st hg
  subst hP hw hK
  obtain ⟨xs,x,hq,hx⟩:=hg
  obtain ⟨its,rv,p,hz⟩:=I.tuple hq
  obtain ⟨u,hu,ru⟩:=rv.get hx
  obtain ⟨f0,f1,f2,f3,f4,f5⟩:=hf it (by simp)
  refine wpAny_pyNext_tuple_item st (show s.heap.IsTuple a its.toArray from p) (x:=u) (by simpa using hu) λh' st' sb=>?_
  have I1:Inv X pins σ H { s with heap:=h' }:=I.turned (t':=s.toks) (λb o hb e=>(sb.2 b hb).trans e) f0 f1 f3 f4 f5
  obtain ⟨o,e,c,d⟩:=id st'
  exact ⟨u,rfl,zQM (s:={ s with heap:=h' }) e c d (by decide) ⟨x,H,I1,ru,⟨rfl,λys hy=>by rw [I.tuple_inj hy hq];exact hx⟩,st',λb hb=>(hf b hb).1⟩⟩
 done:=by
  intro X hP hw hK hc i pins s σ H E I hf st hg
  subst hP hw hK
  obtain ⟨xs,hq,hx⟩:=hg
  obtain ⟨its,rv,p,hz⟩:=I.tuple hq
  obtain ⟨f0,f1,f2,f3,f4,f5⟩:=hf it (by simp)
  have hl:=rv.length
  exact wpAny_pyNext_tuple_end (I.ok.hd hc) st (show s.heap.IsTuple a its.toArray from p) (by simp;omega) λh' eb=>⟨rfl,I.turned (t':=s.toks) (λb o hb e=>eb b o hb e) f0 f1 f3 f4 f5⟩
 self:=λ_ _ _ _ _ st h=>wpAny_pyIter_tupleiter st h
theorem zKM {P:Program} {w:World} {K:Fg} {tg:Expr} (it:Addr) (lo:Int) (n:Nat):zQL P w K tg (Itr lo n) [it] it (λi h=>IsRangeIter h it (lo+(i:Nat)*1) ((n:Int)-(i:Nat)) 1) where
 mem:=by simp
 obj:=λi h st b hb=>by
  have e:b=it:=by simpa using hb
  subst e
  exact ⟨_,st,λv z=>by
   have z':Data.fields _=Data.cell v:=z
   cases z'⟩
 keep:=λi h h' st k=>k it (by simp) _ st
 item:=by
  intro X hP hw hK hc i pins s σ H E I hf st hg
  subst hP hw hK
  obtain ⟨f0,f1,f2,f3,f4,f5⟩:=hf it (by simp)
  have W:=Walks.range (prog:=X.prog) (w:=X.w) (I.ok.hd hc) it lo 1 n
  refine W.item i s _ _ hg st λv h' tk hv st' kk=>?_
  obtain ⟨t,rfl⟩:=hv
  have I1:Inv X pins σ H { s with heap:=h',toks:=tk }:=I.turned (λb o hb e=>kk b o (by simpa using hb) e) f0 f1 f3 f4 f5
  refine ⟨_,rfl,zQM (s:={ s with heap:=h',toks:=tk }) (n:="range_iterator") st' rfl rfl (by decide) ⟨.int (lo+i),H,I1,⟨t,?_⟩,⟨rfl,rfl⟩,st',λb hb=>(hf b hb).1⟩⟩
  rw [Int.mul_one]
 done:=by
  intro X hP hw hK hc i pins s σ H E I hf st hg
  subst hP hw hK
  obtain ⟨f0,f1,f2,f3,f4,f5⟩:=hf it (by simp)
  exact wpAny_pyNext_range_end (I.ok.hd hc) st (by have:n<=i:=hg;omega) λh' eb=>⟨rfl,I.turned (t':=s.toks) (λb o hb e=>eb b o hb e) f0 f1 f3 f4 f5⟩
 self:=λ_ _ _ _ _ st h=>wpAny_pyIter_rangeiter st h
end L2
namespace L2
open PySem PySem.Spec PyProof.Rows
section
variable {X:Cx} {tg:Expr}
noncomputable def iList (K:Fg) (tl:TE):TI:=λσ H R=>tl σ H λx H1=>∃ a,x = .ref a/\(∃ xs,SqL K H1 a xs)/\R (Itl K a) H1
noncomputable def iTup (K:Fg) (tl:TE):TI:=λσ H R=>tl σ H λx H1=>∃ a,x = .ref a/\(∃ xs,SqT K H1 a xs)/\R (Itt K a) H1
theorem zQN {l:Expr} {tl:TE} (hl:PE X l tl):PI X tg l (iList X.K tl):=by
 intro pins s σ H R I h
 refine thn (hl pins s σ H _ I h) λv s1 zz=>?_
 obtain ⟨x,H1,I1,r1,q1⟩:=zz
 obtain ⟨a,e,⟨xs,hq⟩,q⟩:=q1
 subst e
 cases r1
 obtain ⟨its,rv,p,hz⟩:=I1.list hq
 refine wpAny_pyIter_list p.isList ?_
 refine ⟨s1.heap.objs.size,[s1.heap.objs.size],_,_,H1,rfl,I1.kept (t':=s1.toks) λb o e=>zUk _ e,zLL a _,⟨_,zU4 _ rfl,rfl,rfl⟩,λb hb=>?_,q⟩
 have e:b=s1.heap.objs.size:=by simpa using hb
 subst e
 exact I1.fpOk (zUn _) (I1.hok.fresh (zUn _))
theorem zSm {l:Expr} {tl:TE} (hl:PE X l tl):PI X tg l (iTup X.K tl):=by
 intro pins s σ H R I h
 refine thn (hl pins s σ H _ I h) λv s1 zz=>?_
 obtain ⟨x,H1,I1,r1,q1⟩:=zz
 obtain ⟨a,e,⟨xs,hq⟩,q⟩:=q1
 subst e
 cases r1
 obtain ⟨its,rv,p,hz⟩:=I1.tuple hq
 refine wpAny_pyIter_tuple (show s1.heap.IsTuple a its.toArray from p) ?_
 refine ⟨s1.heap.objs.size,[s1.heap.objs.size],_,_,H1,rfl,I1.kept (t':=s1.toks) λb o e=>zUk _ e,zKL a _,⟨_,zU4 _ rfl,rfl,rfl⟩,λb hb=>?_,q⟩
 have e:b=s1.heap.objs.size:=by simpa using hb
 subst e
 exact I1.fpOk (zUn _) (I1.hok.fresh (zUn _))
theorem zJQ {pins:PNt} {σ:St} {H:Hp} {s:Shared} {R:It->Hp->Prop} {E:VSt} {lo hi:Int} {t u v:Tok} {tk:Nat} (I:Inv X pins σ H s) (h1 : -(2 ^ 62)<=lo) (h2:lo<2 ^ 62) (h3 : -(2 ^ 62)<=hi) (h4:hi<2 ^ 62)
  (q:R (Itr lo (hi-lo).toNat) H):wpAny (model X.prog X.w) X.A (pyIter (.ref s.heap.objs.size)) (PIE X pins σ tg R) E { s with heap:=s.heap.push { cls:=.type "range",data:=.fields #[.int lo t,.int hi u,.int 1 v] },toks:=tk }:=by
 refine wpAny_pyIter_range (IsRange.new ..) (small_one h1 h2 h3 h4) ?_
 have I1:Inv X pins σ H { s with heap:=s.heap.push { cls:=.type "range",data:=.fields #[.int lo t,.int hi u,.int 1 v] },toks:=tk }:=I.kept λb o e=>zUk _ e
 refine ⟨(s.heap.push { cls:=.type "range",data:=.fields #[.int lo t,.int hi u,.int 1 v] }).objs.size,[(s.heap.push { cls:=.type "range",data:=.fields #[.int lo t,.int hi u,.int 1 v] }).objs.size],_,_,H,rfl,
  I1.kept (t':=tk) λb o e=>zUk _ e,zKM _ lo (hi-lo).toNat,?_,λb hb=>?_,q⟩
 ·have e1:lo+((0:Nat):Int)*1=lo:=by simp
  have e2:(((hi-lo).toNat:Nat):Int)-((0:Nat):Int)=Builtin.Range.rangeSize lo hi 1:=by rw [rangeSize_one];split<;>omega
  show IsRangeIter _ _ (lo+((0:Nat):Int)*1) ((((hi-lo).toNat:Nat):Int)-((0:Nat):Int)) 1
  rw [e1,e2]
  exact zU4 _ rfl
 ·have e:b=(s.heap.push { cls:=.type "range",data:=.fields #[.int lo t,.int hi u,.int 1 v] }).objs.size:=by simpa using hb
  subst e
  exact I1.fpOk (zUn _) (I1.hok.fresh (zUn _))
noncomputable def iRng1 (ta:TA):TI:=λσ H R=>ta σ H λvs H1=>∃ j:Int,vs = [.int j]/\-(2 ^ 62)<=j/\j<2 ^ 62/\R (Itr 0 j.toNat) H1
noncomputable def iRng2 (ta:TA):TI:=λσ H R=>ta σ H λvs H1=>∃ i j:Int,vs = [.int i,.int j]/\(-(2 ^ 62)<=i/\i<2 ^ 62/\-(2 ^ 62)<=j/\j<2 ^ 62)/\R (Itr i (j-i).toNat) H1
theorem zLM {a:Expr} {ta:TA} {p pos:Pos} (hg:Gl X "range") (hm:X.mg "range" = none) (ha:PA X [a] ta) (hs:starEach [a] X.env = [(false,eval a X.env)]:=by rfl):PI X tg (.Call (.Name "range" p) [a] [] pos) (iRng1 ta):=by
 intro pins s σ H R I h
 refine Call_ (zFf I hg hm boot_range (zV0 (thn (ha pos pins s σ H _ I h) λus s1 ⟨vs,H1,I1,r1,q1⟩=>?_) hs rfl))
 obtain ⟨j,e,q1,q2,q⟩:=q1
 subst e
 cases r1 with
 |cons r rr=>
  cases rr
  obtain ⟨t,rfl⟩:=r
  exact call_range_1 (zJQ I1 (by omega) (by omega) q1 q2 (by simpa using q))
theorem zLN {a b:Expr} {ta:TA} {p pos:Pos} (hg:Gl X "range") (hm:X.mg "range" = none) (ha:PA X [a,b] ta) (hs:starEach [a,b] X.env = [(false,eval a X.env),(false,eval b X.env)]:=by rfl) (hs2:starEach [b] X.env = [(false,eval b X.env)]:=by rfl) :
  PI X tg (.Call (.Name "range" p) [a,b] [] pos) (iRng2 ta):=by
 intro pins s σ H R I h
 refine Call_ (zFf I hg hm boot_range (zV0 (thn (ha pos pins s σ H _ I h) λus s1 ⟨vs,H1,I1,r1,q1⟩=>?_) (by rw [hs,hs2]) (by rw [hs2];rfl)))
 obtain ⟨i,j,e,⟨q1,q2,q3,q4⟩,q⟩:=q1
 subst e
 cases r1 with
 |cons r rr=>
  cases rr with
  |cons r' rr=>
   cases rr
   obtain ⟨t,rfl⟩:=r
   obtain ⟨t',rfl⟩:=r'
   exact call_range_2 (zJQ I1 q1 q2 q3 q4 q)
noncomputable def tFor (wi:TI) (g:TG) (tb:TS):TS:=λD σ H=>wi σ H λJ H1=>∃ W:Nat->Nat->St->Hp->Prop,(∃ m,W 0 m σ H1)/\∀ i m σ H,W i m σ H ->
 (J.stop i H/\D.nx σ H)\/(J.go i H/\∃ N:St->Hp->Prop,(∀ σ' H',N σ' H'->∃ m',m' < m/\W (i+1) m' σ' H')/\∀ x H',J.yld i H x H'->g x σ H' λσ2 H2=>tb { D with nx:=N,ct:=N,bk:=D.nx } σ2 H2)
noncomputable def zHF (fp:List Addr) (h:Heap):PNt:=fp.filterMap λb=>(h.get? b).map λo=>(b,o)
theorem zCA {fp:List Addr} {h:Heap} {b:Addr} {o:Obj} (hb:b∈fp) (e:h.get? b=some o):(b,o)∈zHF fp h:=zU6.mpr ⟨b,hb,by rw [e];rfl⟩
theorem zLO {fp:List Addr} {h:Heap} {p:Addr×Obj} (hp:p∈zHF fp h):p.1∈fp/\h.get? p.1=some p.2:=by
 obtain ⟨b,hb,e⟩:=zU6.mp hp
 cases q:h.get? b with
 |none=>rw [q] at e;cases e
 |some o=>
  rw [q] at e
  have e':(b,o)=p:=zVY e
  subst e'
  exact ⟨hb,q⟩
theorem Inv.pinned {pins:PNt} {σ:St} {H:Hp} {s:Shared} {fp:List Addr} (I:Inv X pins σ H s) (hf:∀ b∈fp,FpOk X pins H b) (ho:∀ b∈fp,∃ o,s.heap.get? b=some o/\∀ v,o.data≠.cell v):Inv X (pins++zHF fp s.heap) σ H s:=
 I.pins_of λp hp=>(zUj.mp hp).elim (λz=>I.pin p (zUt _ z)) λz=>by
  obtain ⟨hb,e⟩:=zLO z
  obtain ⟨f0,f1,f2,_⟩:=hf p.1 hb
  obtain ⟨o,e',d⟩:=ho p.1 hb
  rw [e] at e';cases e'
  exact ⟨e,f0,f1,f2,d⟩
theorem Inv.unpinned {pins pl:PNt} {σ:St} {H:Hp} {s:Shared} (I:Inv X (pins++pl) σ H s):Inv X pins σ H s:=I.pins_of λp hp=>I.pin p (zUt _ (zVV _ hp))
theorem zSn {iter:Expr} {body:List Stmt} {wi:TI} {g:TG} {tb:TS} {pos:Pos} (hp:PassesOwn (model X.prog X.w) X.A X.env X.xe) (hc:X.calm=true) (hi:PI X tg iter wi) (hg:PG X tg g) (hb:PSs X body tb)
  (hs:∀ x,foldedSetIterable iter X.env x=pure x:=by intro _;rfl):PS X (.For tg iter body [] pos) (tFor wi g tb):=by
 intro pins s σ H D I h
 refine wpAny_For (thn (hi pins s σ H _ I h) λv s1 h1=>thn h1 λitv s2 h2=>?_) hs
 obtain ⟨it,fp,tn,J,H2,e,I2,T,st2,f2,W,⟨m0,w0⟩,turn⟩:=h2
 subst e
 -- what stays true of the iterator's objects through the loop
 have stat:∀ {H':Hp},(∀ b∈fp,H' b=none)->∀ b∈fp,FpOk X pins H' b:=λhn b hb=>⟨hn b hb,(f2 b hb).2⟩
 refine codeAny_forLoop_any (λn s'=>∃ i σ' H',Inv X pins σ' H' s'/\tn i s'.heap/\(∀ b∈fp,H' b=none)/\W i n σ' H') ?_ m0 ⟨0,σ,H2,I2,st2,λb hb=>(f2 b hb).1,w0⟩
 rintro n s3 ⟨i,σ3,H3,I3,st3,fr3,w3⟩
 rcases turn i n σ3 H3 w3 with ⟨stop,qn⟩|⟨go,N,hN,step⟩
 ·refine zWD hp (thn (T.done X rfl rfl rfl hc i pins s3 σ3 H3 X.xe I3 (stat fr3) st3 stop) λr s4 zz=>?_)
  obtain ⟨hr,I4⟩:=zz
  subst hr
  exact zWM ⟨σ3,H3,I4,qn⟩
 ·refine zWD hp (thn (T.item X rfl rfl rfl hc i pins s3 σ3 H3 X.xe I3 (stat fr3) st3 go) λr s4 zz=>?_)
  obtain ⟨u,hr,h4⟩:=zz
  subst hr
  refine zWD hp (thn h4 λ_ s5 zz=>?_)
  obtain ⟨x,H5,I5,r5,y5,st5,fr5⟩:=zz
  have I5':=I5.pinned (stat fr5) (T.obj _ _ st5)
  refine zWD hp (thn (hg _ s5 σ3 H5 x u _ I5' r5 (step x H5 y5)) λ_ s6 zz=>?_)
  obtain ⟨σ6,H6,I6,q6⟩:=zz
  refine zWD hp (thn (hb _ s6 σ6 H6 _ I6 q6) λf s7 q7=>?_)
  have again:∀ {σ7:St} {H7:Hp},Inv X (pins++zHF fp s5.heap) σ7 H7 s7->N σ7 H7->∃ m,m<n/\∃ i σ' H',Inv X pins σ' H' s7/\tn i s7.heap/\(∀ b∈fp,H' b=none)/\W i m σ' H':=λ{σ7 H7} I7 n7=>by
   obtain ⟨m',hm,w7⟩:=hN σ7 H7 n7
   refine ⟨m',hm,i+1,σ7,H7,I7.unpinned,T.keep _ _ _ st5 λb hb o e=>(I7.pin (b,o) (zUt _ (zUt _ (zCA hb e)))).1,λb hb=>?_,w7⟩
   obtain ⟨o,e,d⟩:=T.obj _ _ st5 b hb
   exact (I7.pin (b,o) (zUt _ (zUt _ (zCA hb e)))).2.1
  cases f with
  |next=>obtain ⟨σ7,H7,I7,n7⟩:=q7;exact again I7 n7
  |cont=>obtain ⟨σ7,H7,I7,n7⟩:=q7;exact again I7 n7
  |brk=>obtain ⟨σ7,H7,I7,q7⟩:=q7;exact ⟨σ7,H7,I7.unpinned,q7⟩
  |ret v=>obtain ⟨x7,σ7,H7,I7,r7,q7⟩:=q7;exact ⟨x7,σ7,H7,I7.unpinned,r7,q7⟩
end
end L2
namespace L2
open PySem PySem.Spec PyProof.Rows
abbrev R2:=V->V->Hp->VK->Prop
def OpR (X:Cx) (f:Value->Value->Sem Value) (r:R2):Prop:=
 ∀ (pins:PNt) (s:Shared) (σ:St) (H:Hp) (x y:V) (v u:Value) (Q:VK),Inv X pins σ H s->yr x v->yr y u->r x y H Q ->
  wpAny (model X.prog X.w) X.A (f v u) (EP X pins σ Q) X.xe s
def UnR (X:Cx) (f:Value->Sem Value) (r:V->Hp->VK->Prop):Prop:=
 ∀ (pins:PNt) (s:Shared) (σ:St) (H:Hp) (x:V) (v:Value) (Q:VK),Inv X pins σ H s->yr x v->r x H Q ->
  wpAny (model X.prog X.w) X.A (f v) (EP X pins σ Q) X.xe s
def zAt (X:Cx) (f:Value) (r:List V->Hp->VK->Prop):Prop:=
 ∀ (pins:PNt) (s:Shared) (σ:St) (H:Hp) (xs:List V) (us:List Value) (Q:VK),Inv X pins σ H s->yP xs us->r xs H Q ->
  wpAny (model X.prog X.w) X.A (call f us) (EP X pins σ Q) X.xe s
def TruR (X:Cx) (r:V->Hp->(Bool->Hp->Prop)->Prop):Prop:=
 ∀ (pins:PNt) (s:Shared) (σ:St) (H:Hp) (x:V) (v:Value) (Q:Bool->Hp->Prop),Inv X pins σ H s->yr x v->r x H Q ->
  wpAny (model X.prog X.w) X.A (truthy v) (TP X pins σ Q) X.xe s
noncomputable def tOp (r:R2) (ta tb:TE):TE:=λσ H Q=>ta σ H λx H1=>tb σ H1 λy H2=>r x y H2 Q
noncomputable def tUn (r:V->Hp->VK->Prop) (ta:TE):TE:=λσ H Q=>ta σ H λx H1=>r x H1 Q
noncomputable def rI (C:Int->Int->Prop) (g:Int->Int->V):R2:=λx y H Q=>∃ i j,x = .int i/\y = .int j/\C i j/\Q (g i j) H
noncomputable def rI0 (g:Int->Int->V):R2:=λx y H Q=>∃ i j,x = .int i/\y = .int j/\Q (g i j) H
noncomputable def rU (g:Int->V):V->Hp->VK->Prop:=λx H Q=>∃ i,x = .int i/\Q (g i) H
section
variable {X:Cx} {a b c:Expr} {ta tb tc:TE} {pos:Pos}
theorem binT (ha:PE X a ta) (hb:PE X b tb) {pins:PNt} {s:Shared} {σ:St} {H:Hp} {R:V->V->Hp->Prop} (I:Inv X pins σ H s)
  (h:ta σ H λx H1=>tb σ H1 λy H2=>R x y H2) {Q:VSt} {f:Value->Value->Sem Value}
  (hf:∀ v u s2 x y H2,Inv X pins σ H2 s2->yr x v->yr y u->R x y H2->wpAny (model X.prog X.w) X.A (f v u) Q X.xe s2) :
  wpAny (model X.prog X.w) X.A (eval a X.env) (λv s₁=>wpAny (model X.prog X.w) X.A (eval b X.env) (λu s₂=>wpAny (model X.prog X.w) X.A (f v u) Q X.xe s₂) X.xe s₁) X.xe s:=by
 refine thn (ha pins s σ H _ I h) λv s1 zz=>?_
 obtain ⟨x,H1,I1,r1,q1⟩:=zz
 refine thn (hb pins s1 σ H1 _ I1 q1) λu s2 zz=>?_
 obtain ⟨y,H2,I2,r2,q2⟩:=zz
 exact hf v u s2 x y H2 I2 r1 r2 q2
theorem zSo {op:Operator} {r:R2} (ho:OpR X (binaryOp op) r) (ha:PE X a ta) (hb:PE X b tb):PE X (.BinOp a op b pos) (tOp r ta tb):=by
 intro pins s σ H Q I h
 exact wpAny_BinOp (binT ha hb I h λv u s2 x y H2 I2 rx ry q=>ho pins s2 σ H2 x y v u Q I2 rx ry q)
theorem pe_un {op:UnaryOp} {r:V->Hp->VK->Prop} (ho:UnR X (unaryOp op) r) (ha:PE X a ta):PE X (.UnaryOp op a pos) (tUn r ta):=by
 intro pins s σ H Q I h
 exact UnaryOp_ (thn (ha pins s σ H _ I h) λv s1 ⟨x,H1,I1,r1,q1⟩=>ho pins s1 σ H1 x v Q I1 r1 q1)
theorem opI {f:Value->Value->Sem Value} {C:Int->Int->Prop} {g:Int->Int->Int}
  (rule:∀ (i j:Int) (t u:Tok) (s:Shared) (Q:VSt) (E:VSt),C i j->Q (.int (g i j) s.toks) { s with toks:=s.toks+1 }->wpAny (model X.prog X.w) X.A (f (.int i t) (.int j u)) Q E s) :
  OpR X f (rI C λi j=>.int (g i j)):=by
 intro pins s σ H x y v u Q I rx ry h
 obtain ⟨i,j,rfl,rfl,hc,q⟩:=h
 obtain ⟨t,rfl⟩:=rx
 obtain ⟨t',rfl⟩:=ry
 exact rule i j t t' s _ _ hc ⟨.int (g i j),H,I.tok _,⟨_,rfl⟩,q⟩
theorem opI0 {f:Value->Value->Sem Value} {g:Int->Int->Int}
  (rule:∀ (i j:Int) (t u:Tok) (s:Shared) (Q:VSt) (E:VSt),Q (.int (g i j) s.toks) { s with toks:=s.toks+1 }->wpAny (model X.prog X.w) X.A (f (.int i t) (.int j u)) Q E s) :
  OpR X f (rI0 λi j=>.int (g i j)):=by
 intro pins s σ H x y v u Q I rx ry h
 obtain ⟨i,j,rfl,rfl,q⟩:=h
 obtain ⟨t,rfl⟩:=rx
 obtain ⟨t',rfl⟩:=ry
 exact rule i j t t' s _ _ ⟨.int (g i j),H,I.tok _,⟨_,rfl⟩,q⟩
def CDiv (i j:Int):Prop:=0<j/\j<1073741824
def CMul (i j:Int):Prop:=(-(2 ^ 64)<i/\i<2 ^ 64)\/(-(2 ^ 64)<j/\j<2 ^ 64)
theorem CMul.ok {i j:Int} (h:CMul i j):IntMulOk i j:=by
 rcases h with ⟨h1,h2⟩|⟨h1,h2⟩
 ·exact .of_left (intBits_le_64 h1 h2)
 ·exact .of_right (intBits_le_64 h1 h2)
theorem zSp:OpR X (binaryOp .Sub) (rI0 λi j=>.int (i-j)):=opI0 λ_ _ _ _ _ _ _ q=>sub_int q
theorem zSq:OpR X (binaryOp .Mult) (rI CMul λi j=>.int (i*j)):=opI λ_ _ _ _ _ _ _ hc q=>mul_int q hc.ok
theorem zQO:OpR X (binaryOp .FloorDiv) (rI CDiv λi j=>.int (i/j)):=opI λi j _ _ _ _ _ hc q=>by
 have h1:(0:Int)<j:=hc.1
 have h2:j<1073741824:=hc.2
 exact floordiv_int (by omega) (by rw [Int.fdiv_eq_ediv_of_nonneg i (by omega)];exact q) (.inl (PyProof.noPylong_small (by omega)))
theorem zSr:OpR X (binaryOp .Mod) (rI (λ_ j=>0<j) λi j=>.int (i%j)):=opI λi j _ _ _ _ _ hc q=>by
 have h1:(0:Int)<j:=hc
 exact mod_int' (by omega) (by rw [Int.fmod_eq_emod_of_nonneg i (by omega)];exact q)
theorem unI {f:Value->Sem Value} {g:Int->Int}
  (rule:∀ (i:Int) (t:Tok) (s:Shared) (Q:VSt) (E:VSt),Q (.int (g i) s.toks) { s with toks:=s.toks+1 }->wpAny (model X.prog X.w) X.A (f (.int i t)) Q E s) :
  UnR X f (rU λi=>.int (g i)):=by
 intro pins s σ H x v Q I rx h
 obtain ⟨i,rfl,q⟩:=h
 obtain ⟨t,rfl⟩:=rx
 exact rule i t s _ _ ⟨.int (g i),H,I.tok _,⟨_,rfl⟩,q⟩
theorem zSs:UnR X (unaryOp .USub) (rU λi=>.int (-i)):=unI λ_ _ _ _ _ q=>neg_int q
end
section
variable {X:Cx} {a b c:Expr} {ta tb tc:TE} {pos:Pos}
theorem zBr {pins:PNt} {σ:St} {H:Hp} {s:Shared} {Q:VK} {k k':Bool} (I:Inv X pins σ H s) (q:Q (.bl k) H) (e:k=k'):EP X pins σ Q (.bool k') s:=by
 subst e
 exact ⟨.bl k,H,I,rfl,q⟩
theorem zSt:OpR X (compareOp .Is) (λx y H Q=>y = .non/\Q (.bl (decide (x = .non))) H):=by
 intro pins s σ H x y v u Q I rx ry h
 obtain ⟨rfl,q⟩:=h
 cases ry
 refine is_none_gen (zBr I q ?_)
 cases x<;>first
  |(cases rx;rfl)
  |(obtain ⟨t,rfl⟩:=rx;rfl)
theorem z6 (b:Expr) {op:CmpOp} (h:op≠.In:=by decide) (h2:op≠.NotIn:=by decide):behindInMarks op b=false:=by
 have e1:(op == CmpOp.In)=false:=by cases op<;>first|rfl|exact absurd rfl h
 have e2:(op == CmpOp.NotIn)=false:=by cases op<;>first|rfl|exact absurd rfl h2
 cases b<;>simp [behindInMarks,e1,e2]
theorem zLP {op:CmpOp} {r:R2} (ho:OpR X (compareOp op) r) (ha:PE X a ta) (hb:PE X b tb) (hm:behindInMarks op b=false):PE X (.Compare a [op] [b] pos) (tOp r ta tb):=by
 intro pins s σ H Q I h
 exact wpAny_Compare1 (binT ha hb I h λv u s2 x y H2 I2 rx ry q=>ho pins s2 σ H2 x y v u Q I2 rx ry q) hm
noncomputable def tTest (t:TE):TT:=λσ H Q=>t σ H λx H'=>∃ k,x = .bl k/\Q k H'
theorem zGK {op:CmpOp} {r:R2} (ho:OpR X (compareOp op) r) (ha:PE X a ta) (hb:PE X b tb) (hm:behindInMarks op b=false):PT X (.Compare a [op] [b] pos) (tTest (tOp r ta tb)):=by
 intro pins s σ H Q I h
 refine wpAny_isTrue_Compare1 (thn (ha pins s σ H _ I h) λv s1 ⟨x,H1,I1,r1,q1⟩=>thn (hb pins s1 σ H1 _ I1 q1) λu s2 ⟨y,H2,I2,r2,q2⟩=>
  thn (ho pins s2 σ H2 x y v u _ I2 r1 r2 q2) λc s3 ⟨z,H3,I3,r3,k,e,q3⟩=>?_) hm
 subst e
 cases r3
 exact zVz ⟨H3,I3,q3⟩
def TruV (K:Fg) (x:V) (H:Hp) (k:Bool):Prop:=
 match x with
 |.non=>k=false
 |.bl b=>k=b
 |.int i=>k=(i != 0)
 |.str y=>y.length<=sizeLine/\k=((y.length:Int) != 0)
 |.byt y=>y.size<=sizeLine/\k=((y.size:Int) != 0)
 |.ref p=>(∃ xs,SqL K H p xs/\k = !xs.isEmpty)\/(∃ xs,SqT K H p xs/\k = !xs.isEmpty)\/∃ kvs,H p=some (.dK kvs)/\k = !kvs.isEmpty
 |_=>False
theorem zKN {κ:Type} {kvs:List (κ×V)} {vs:List (κ×Value)} (r:KV kvs vs):(!vs.isEmpty) = !kvs.isEmpty:=by
 cases r<;>rfl
theorem zFg {xs:List V} {its:List Value} (r:yP xs its):(!its.toArray.isEmpty) = !xs.isEmpty:=by
 cases r<;>simp
theorem zEQ:(sizeLine:Nat)<2 ^ 63:=by rw [zWE];decide
theorem zSu:TruR X (λx H Q=>∃ k,TruV X.K x H k/\Q k H):=by
 intro pins s σ H x v Q I rx h
 obtain ⟨k,e,q⟩:=h
 have hl:=zEQ
 have hs:sizeLine=16777216:=zWE
 cases x with
 |non=>
  cases rx
  have e':k=false:=e
  subst e'
  exact truthy_none ⟨H,I,q⟩
 |bl b=>
  cases rx
  have e':k=b:=e
  subst e'
  exact zVz ⟨H,I,q⟩
 |int i=>
  obtain ⟨t,rfl⟩:=rx
  have e':k=(i != 0):=e
  subst e'
  exact PySem.P.truthy_int ⟨H,I,q⟩
 |str y=>
  obtain ⟨t,rfl⟩:=rx
  obtain ⟨hy,e'⟩:y.length<=sizeLine/\k=((y.length:Int) != 0):=e
  subst e'
  exact PySem.P.truthy_str (by omega) ⟨H,I.tok _,q⟩
 |byt y=>
  obtain ⟨t,rfl⟩:=rx
  obtain ⟨hy,e'⟩:y.size<=sizeLine/\k=((y.size:Int) != 0):=e
  subst e'
  exact PySem.W.truthy_bytes (by omega) ⟨H,I.tok _,q⟩
 |ref p=>
  cases rx
  have e':(∃ xs,SqL X.K H p xs/\k = !xs.isEmpty)\/(∃ xs,SqT X.K H p xs/\k = !xs.isEmpty)\/∃ kvs,H p=some (.dK kvs)/\k = !kvs.isEmpty:=e
  rcases e' with ⟨xs,hx,e'⟩|⟨xs,hx,e'⟩|⟨kvs,hx,e'⟩
  ·subst e'
   obtain ⟨its,r,pl,hz⟩:=I.list hx
   have hlen:=r.length
   exact wpAny_truthy_list pl.isList (by simp only [zUh];omega) ⟨H,I.tok _,by rw [zFg r];exact q⟩
  ·subst e'
   obtain ⟨its,r,pl,hz⟩:=I.tuple hx
   have hlen:=r.length
   exact truthy_tuple pl (by simp only [zUh];omega) ⟨H,I.tok _,by rw [zFg r];exact q⟩
  ·subst e'
   obtain ⟨hz,hS,vs,r,m⟩:kvs.length<=sizeLine/\(p == sysModules)=false/\∃ vs,KV kvs vs/\s.heap.DictOf (zy X.prog X.w) p vs:=I.hok p _ hx
   have hlen:kvs.length=vs.length:=zWO r
   exact wpAny_truthy_dict hS m (by omega) ⟨H,I.tok _,by rw [zKN r];exact q⟩
 |_=>exact (show False from e).elim
theorem zNm (ha:PE X a ta) (he:∀ whole,isTrue a X.env whole=(do let v <- whole;standAt a.pos;holding [v] (truthy v))) :
  PT X a (λσ H Q=>ta σ H λx H'=>∃ k,TruV X.K x H' k/\Q k H'):=by
 intro pins s σ H Q I h
 exact isTrue_plain (thn (ha pins s σ H _ I h) λv s1 ⟨x,H1,I1,r1,q1⟩=>zSu pins s1 σ H1 x v Q I1 r1 q1) (he _)
theorem zKO:OpR X (binaryOp .Add) (λx y H Q=>∃ i j,x = .str i/\y = .str j/\i.length+j.length<=sizeLine/\Q (.str (i++j)) H):=by
 intro pins s σ H x y v u Q I rx ry h
 obtain ⟨i,j,rfl,rfl,hz,q⟩:=h
 obtain ⟨t,rfl⟩:=rx
 obtain ⟨t',rfl⟩:=ry
 exact add_str (λt' tk=>⟨.str (i++j),H,I.tok _,⟨_,rfl⟩,q⟩) hz
theorem zDR {x:V} {us:List Value} (r:yP [x] us):∃ u,us = [u]/\yr x u:=by
 cases r with
 |cons r1 r2=>cases r2;exact ⟨_,rfl,r1⟩
theorem zSv {x y:V} {us:List Value} (r:yP [x,y] us):∃ u w',us = [u,w']/\yr x u/\yr y w':=by
 cases r with
 |cons r1 r2=>
  cases r2 with
  |cons r3 r4=>cases r4;exact ⟨_,_,rfl,r1,r3⟩
theorem zHG:zAt X (.type "int") (λxs H Q=>(∃ i,xs = [.int i]/\Q (.int i) H)\/∃ k,xs = [.bl k]/\Q (.int (if k then 1 else 0)) H):=by
 intro pins s σ H xs us Q I r h
 rcases h with ⟨i,rfl,q⟩|⟨k,rfl,q⟩
 ·obtain ⟨u,rfl,t,rfl⟩:=zDR r
  exact call_int_int ⟨.int i,H,I,⟨_,rfl⟩,q⟩
 ·obtain ⟨u,rfl,r1⟩:=zDR r
  cases r1
  exact call_int_bool ⟨.int (if k then 1 else 0),H,I.tok _,⟨_,rfl⟩,q⟩
end
end L2
namespace L2
open PySem PySem.Spec PyProof.Rows
structure zQP (h:Heap) (x dx C:Addr) (mA:MGt):Prop where
 obj:h.get? x=some (PySem.W.instObj C dx)
 ns:h.Ns1 dx mA
 ne:dx≠x
theorem zLQ {h:Heap} {dx:Addr} {mA:MGt} (n:h.Ns1 dx mA):∃ od,h.get? dx=some od/\∀ name,PySem.W.lookIn name od=some (mA name):=by
 obtain ⟨o,es,ep,ho,hd,hk,_,hm⟩:=n
 refine ⟨o,ho,λname=>?_⟩
 have e:=hm name
 unfold nsFind findBy at e
 rw [<- Array.find?_toList] at e
 unfold PySem.W.lookIn
 rw [hd]
 dsimp only
 split
 ·rename_i y q
  rw [q] at e
  exact zVX some e
 ·rename_i q
  rw [q] at e
  have a:es.toList.any (·.refKey)=false:=by
   rw [List.any_eq_false]
   intro y hy
   obtain ⟨z,t,hkey⟩:=hk y (Array.mem_toList_iff.mp hy)
   simp [DictEntry.refKey,hkey]
  have a':¬ es.toList.any (·.refKey)=true:=by rw [a];exact zU7
  rw [zVD a']
  exact zVX some e
theorem zQP.look {h:Heap} {x dx C:Addr} {mA:MGt} (I:zQP h x dx C mA):∃ od,PySem.W.InstAt h x (PySem.W.instObj C dx) C (some od)/\∀ name,PySem.W.lookIn name od=some (mA name):=
 let ⟨od,ho,hl⟩:=zLQ I.ns
 ⟨od,⟨I.obj,rfl,rfl,ho⟩,hl⟩
section
variable {prog:Program} {w:World} {A:Around} {E:VSt} {s:Shared} {K:Fg} {x dx C f:Addr} {mA:MGt} {name:Str} {v:Value}
theorem zQQ {expr:Bool} {Q:VSt} (X:K.In s.heap) (I:zQP s.heap x dx C mA) (hg:PySem.W.plainGet K C name=true) (hh:PySem.W.hasDictIn K C=true)
  (ha:PySem.W.findIn K (.ref C) name=some none) (hv:mA name=some v) (hv':PySem.W.handedIn v=true) (h:Q v { s with toks:=s.toks+1 }) :
  wpAny (model prog w) A (getAttr (.ref x) name expr) Q E s:=by
 obtain ⟨od,J,hl⟩:=I.look
 exact PySem.W.get_value X J (zW6 hg).1 (PySem.W.findObj_own hh ha rfl (by rw [hl,hv])) hv' h
theorem zNn {pl:Sem Bool} {Q:Value×List Value->Shared->Prop} (X:K.In s.heap) (I:zQP s.heap x dx C mA) (hg:PySem.W.plainGet K C name=true)
  (hf:PySem.W.findIn K (.ref C) name=some (some (.ref f))) (ht:PySem.W.isFn K (.ref f)=true) (hv:mA name=none) (h:Q (.ref f,[.ref x]) s) :
  wpAny (model prog w) A (getMethod (.ref x) name pl) Q E s:=by
 obtain ⟨od,J,hl⟩:=I.look
 exact PySem.W.method_fn X J (zW6 hg).1 (zW6 hg).2 hf (zWP.mp ht) (by show (PySem.W.lookIn name od).map (·.isSome)=some false;rw [hl,hv];rfl) h
theorem zQR {ns:List Str} {Q:Unit->Shared->Prop} (X:K.In s.heap) (I:zQP s.heap x dx C mA)
  (hs:PySem.W.findIn K (.ref C) "__setattr__" = some (some (.builtin "object.__setattr__"))) (hp:PySem.W.plainOver K C=true) (ht:PySem.W.takerIn K C name=some none) (hh:PySem.W.hasDictIn K C=true)
  (hw:PySem.Within mA ns) (hsz:ns.length<=sizeLine)
  (h:∀ h',zQP h' x dx C (λy=>if y=name then some v else mA y)->Heap.SameBut dx s.heap h'->Q () { s with heap:=h',toks:=s.toks+2 }) :
  wpAny (model prog w) A (setAttr (.ref x) name v) Q E s:=by
 obtain ⟨od,J,hl⟩:=I.look
 refine PySem.W.set_plain X J hs (PySem.W.osa_open (s:={ s with toks:=s.toks+1 }) (r:=none) X J hp ht λb=>?_)
 obtain ⟨cd,hc,hd'⟩:=PySem.W.any_some hh
 have hx:s.heap.get? x=some ⟨.ref C,some dx,.plain,#[]⟩:=I.obj
 refine zUe (zUl (zUe (zUe (wpAny_loadPart hx (zUe (PySem.W.Looks.here (s:={ s with toks:=s.toks+1 }) (PySem.W.looks_clsIn X hc) ?_))))))
 rw [hd']
 refine zUl (a:=some dx) (zUe (zUl (zUe ?_)))
 refine wpAny_nsSet1 (s:={ s with toks:=s.toks+1 }) I.ns λh' hn2 hs2=>?_
 obtain ⟨oD,esD,epD,hoD,hdD,hcD⟩:=hn2.count (PySem.Within.cons name v hw)
 refine zUe (wpAny_lookBehind hoD (by rw [hdD];exact pastItsLine_dict (zVF hcD (by rw [zUa];omega))) ?_)
 exact zUl (h _ ⟨(hs2.2 _ (Ne.symm I.ne)).trans I.obj,hn2,I.ne⟩ hs2)
theorem zNo {R:Result->Shared->Prop} {vs:List Value} {kw:List (Str×Value)} (X:K.In s.heap) (hm:PySem.W.makesIn K C=true)
  (hi:PySem.W.findIn K (.ref C) "__init__" = some (some (.ref f))) (hf:PySem.W.typeIn K (.ref f)=some (.type "function"))
  (h:codeAny (model prog w) (A.under (.builtin "type.__call__" ⟨.ref C::vs,kw⟩)) (.call (.ref f) ⟨.ref (s.heap.objs.size+1)::vs,kw⟩) (PySem.W.InitBack (s.heap.objs.size+1) R)
   { s with heap:=(s.heap.push PySem.W.emptyDict).push (PySem.W.instObj C s.heap.objs.size) }) :
  codeAny (model prog w) A (.call (.ref C) ⟨vs,kw⟩) R s:=by
 obtain ⟨hh,g,d,t,os⟩:=s
 exact PySem.W.make_core (PySem.W.makes_of X hm) (PySem.W.looks_findIn X hi) (λself=>PySem.W.bind_fn X self hf) (.inl rfl) h
end
noncomputable def zCB (f:Str) (v:V):List (Str×V)->List (Str×V)
 | []=>[(f,v)]
 |(g,x)::r=>if g=f then (g,v)::r else (g,x)::zCB f v r
theorem zAN (f g:Str) (v:V):∀ fs:List (Str×V),(zCB f v fs).lookup g=if g=f then some v else fs.lookup g
 |[]=>by
  show List.lookup g [(f,v)]=_
  by_cases h:g=f
  ·have hb:(g == f)=true:=zWP.mpr h
   simp only [List.lookup,hb,zUp h]
  ·have hb:(g == f)=false:=zVJ.mpr h
   simp only [List.lookup,hb,zVD h]
 |(k,x)::r=>by
  have ih:=zAN f g v r
  rw [show zCB f v ((k,x)::r)=(if k=f then (k,v)::r else (k,x)::zCB f v r) from rfl]
  by_cases hk:k=f
  ·rw [zUp hk]
   by_cases h:g=k
   ·have hb:(g == k)=true:=zWP.mpr h
    simp only [List.lookup,hb,zUp (h.trans hk)]
   ·have hb:(g == k)=false:=zVJ.mpr h
    simp only [List.lookup,hb,zVD (λe:g=f=>h (e.trans hk.symm))]
  ·rw [zVD hk]
   by_cases h:g=k
   ·have hb:(g == k)=true:=zWP.mpr h
    simp only [List.lookup,hb,zVD (λe:g=f=>hk (h.symm.trans e))]
   ·have hb:(g == k)=false:=zVJ.mpr h
    simp only [List.lookup,hb]
    exact ih
theorem zER (f:Str) (v:V):∀ fs:List (Str×V),f∈(zCB f v fs).map (·.1)/\∀ g,g∈fs.map (·.1)->g∈(zCB f v fs).map (·.1)
 | []=>⟨by simp [zCB],λg h=>by simp at h⟩
 |(k,x)::r=>by
  obtain ⟨i1,i2⟩:=zER f v r
  rw [show zCB f v ((k,x)::r)=(if k=f then (k,v)::r else (k,x)::zCB f v r) from rfl]
  by_cases hk:k=f
  ·rw [zUp hk]
   subst hk
   exact ⟨by simp,λg h=>by simpa using h⟩
  ·rw [zVD hk]
   refine ⟨?_,λg h=>?_⟩
   ·rw [zUc]
    exact zUY _ i1
   ·rw [zUc] at h ⊢
    rcases zUg.mp h with e|e
    ·exact zUg.mpr (.inl e)
    ·exact zUY _ (i2 g e)
theorem zCa (f:Str) (v:V):∀ fs:List (Str×V),(zCB f v fs).length<=fs.length+1
 | []=>by simp [zCB]
 |(k,x)::r=>by
  have ih:=zCa f v r
  rw [show zCB f v ((k,x)::r)=(if k=f then (k,v)::r else (k,x)::zCB f v r) from rfl]
  by_cases hk:k=f
  ·rw [zUp hk,zUa,zUa];omega
  ·rw [zVD hk,zUa,zUa];omega
theorem zFT.some_of {v:V} {o:Option Value} (r:zFT (some v) o):∃ u,o=some u/\yr v u:=by
 cases o with
 |none=>exact (show False from r).elim
 |some u=>exact ⟨u,rfl,r⟩
theorem zFT.none_of {o:Option Value} (r:zFT none o):o=none:=by
 cases o with
 |none=>rfl
 |some u=>exact (show False from r).elim
theorem zLR {v:V} {u:Value} (r:yr v u):PySem.W.handedIn u=true:=by
 cases v with
 |non=>cases (show u=Value.none from r);rfl
 |bl b=>cases (show u=Value.bool b from r);rfl
 |int i=>obtain ⟨t,e⟩:=(show ∃ t,u=Value.int i t from r);cases e;rfl
 |str x=>obtain ⟨t,e⟩:=(show ∃ t,u=Value.str x t from r);cases e;rfl
 |byt b=>obtain ⟨t,e⟩:=(show ∃ t,u=Value.bytes b t from r);cases e;rfl
 |flt b=>obtain ⟨t,e⟩:=(show ∃ t,u=Value.float b t from r);cases e;rfl
 |ref a=>cases (show u=Value.ref a from r);rfl
 |ty n=>cases (show u=Value.type n from r);rfl
section
variable {P:Program} {w:World} {H H':Hp} {h h':Heap} {a C dx:Addr} {fs fs':List (Str×V)}
theorem zIW (hok:HOk P w H h) (e:H a=some (.ins C dx fs)):∃ mA,zQP h a dx C mA/\(∀ f,zFT (fs.lookup f) (mA f))/\PySem.Within mA (fs.map (·.1))/\fs.length<=1000/\H dx=some (.own a):=by
 obtain ⟨d,z,ne,ob,mA,n,r,q⟩:=(show zAC P w H h a (.ins C dx fs) from hok a _ e)
 exact ⟨mA,⟨ob,n,ne⟩,r,q,z,d⟩
end
structure Cls (K:Fg) (C:Addr):Prop where
 pg:PySem.W.plainGet K C Str.empty=true
 hd:PySem.W.hasDictIn K C=true
 po:PySem.W.plainOver K C=true
 sa:PySem.W.findIn K (.ref C) "__setattr__" = some (some (.builtin "object.__setattr__"))
theorem Cls.get {K:Fg} {C:Addr} (c:Cls K C) (f:Str):PySem.W.plainGet K C f=true:=c.pg
def qO (K:Fg) (C:Addr) (f:Str):Prop:=PySem.W.findIn K (.ref C) f=some none
theorem qO.taker {K:Fg} {C:Addr} {f:Str} (n:qO K C f):PySem.W.takerIn K C f=some none:=by
 unfold PySem.W.takerIn
 rw [show PySem.W.findIn K (.ref C) f=some none from n]
 rfl
structure zQS (K:Fg) (C:Addr) (m:Str) (f:Addr):Prop where
 at_:PySem.W.findIn K (.ref C) m=some (some (.ref f))
 fn:PySem.W.isFn K (.ref f)=true
 kp:PySem.W.keepIn K (.ref f)=true
section
variable {X:Cx} {pins:PNt} {σ:St} {H:Hp} {s:Shared} {a C dx:Addr} {fs:List (Str×V)} {f:Str} {v:V} {A:Around} {E:VSt}
theorem zKP {b:Bool} {Q:VSt} (I:Inv X pins σ H s) (e:H a=some (.ins C dx fs)) (c:Cls X.K C) (n:qO X.K C f) (l:fs.lookup f=some v)
  (h:∀ u s',Inv X pins σ H s'->yr v u->Q u s'):wpAny (model X.prog X.w) A (getAttr (.ref a) f b) Q E s:=by
 obtain ⟨mA,O,r,_,_,_⟩:=zIW I.hok e
 obtain ⟨u,hu,ru⟩:=zFT.some_of (v:=v) (o:=mA f) (by rw [<- l];exact r f)
 exact zQQ I.kIn O (c.get f) c.hd n hu (zLR ru) (h u _ (I.tok _) ru)
theorem zDS {m:Str} {g:Addr} {pl:Sem Bool} {Q:Value×List Value->Shared->Prop} (I:Inv X pins σ H s) (e:H a=some (.ins C dx fs)) (c:Cls X.K C) (k:zQS X.K C m g) (l:fs.lookup m=none)
  (h:Q (.ref g,[.ref a]) s):wpAny (model X.prog X.w) A (getMethod (.ref a) m pl) Q E s:=by
 obtain ⟨mA,O,r,_,_,_⟩:=zIW I.hok e
 have hn:mA m=none:=zFT.none_of (by rw [<- l];exact r m)
 exact zNn I.kIn O (c.get m) k.at_ k.fn hn h
theorem zKQ {y:V} {u:Value} {Q:Unit->Shared->Prop} (I:Inv X pins σ H s) (e:H a=some (.ins C dx fs)) (c:Cls X.K C) (n:qO X.K C f) (hl:fs.length<1000) (ry:yr y u)
  (h:∀ s',Inv X pins σ (upd H a (.ins C dx (zCB f y fs))) s'->Q () s'):wpAny (model X.prog X.w) A (setAttr (.ref a) f u) Q E s:=by
 obtain ⟨mA,O,r,wi,_,ho⟩:=zIW I.hok e
 have hz:(fs.map (·.1)).length<=sizeLine:=by rw [zUi,zWE];omega
 refine zQR I.kIn O c.sa c.po n.taker c.hd wi hz λh' O' sb=>h _ ?_
 have hd:∃ o,h'.get? dx=some o:=let ⟨o,_,_,e',_⟩:=O'.ns;⟨o,e'⟩
 refine I.write (x:=a) (e:=dx) (by rw [e];exact True.intro) (.inr ho) (λb q hb z=>(sb.2 b hb).trans z) hd ?_
 refine ⟨by rw [zK O.ne];exact ho,?_,O.ne,O'.obj,_,O'.ns,λg=>?_,λg hg=>?_⟩
 ·have:=zCa f y fs;omega
 ·show zFT ((zCB f y fs).lookup g) (if g=f then some u else mA g)
  rw [zAN]
  by_cases q:g=f
  ·rw [zUp q,zUp q];exact ry
  ·rw [zVD q,zVD q];exact r g
 ·by_cases q:g=f
  ·rw [q];exact (zER f y fs).1
  ·refine (zER f y fs).2 g (wi g λz=>hg ?_)
   show (if g=f then some u else mA g)=none
   rw [zVD q];exact z
theorem Inv.made (I:Inv X pins σ H s):Inv X pins σ (upd (upd H s.heap.objs.size (.own (s.heap.objs.size+1))) (s.heap.objs.size+1) (.ins C s.heap.objs.size []))
  { s with heap:=(s.heap.push PySem.W.emptyDict).push (PySem.W.instObj C s.heap.objs.size) }:=by
 have e1:(s.heap.push PySem.W.emptyDict).get? s.heap.objs.size=some PySem.W.emptyDict:=zU4 s.heap rfl
 have e2:((s.heap.push PySem.W.emptyDict).push (PySem.W.instObj C s.heap.objs.size)).get? (s.heap.objs.size+1)=some (PySem.W.instObj C s.heap.objs.size):=by
  have:=zU4 (s.heap.push PySem.W.emptyDict) (o:=PySem.W.instObj C s.heap.objs.size) rfl
  rwa [zWn] at this
 have e3:(s.heap.push PySem.W.emptyDict).Ns s.heap.objs.size (λ_=>none):=⟨PySem.W.emptyDict,#[],_,e1,rfl,(λe he=>absurd he (by simp)),λ_=>rfl⟩
 have I1:=I.laid (a:=s.heap.objs.size) (o:=.own (s.heap.objs.size+1)) (h':=s.heap.push PySem.W.emptyDict) (t':=s.toks) (λb u q=>zUk _ q) (zUn _) ⟨_,e1⟩
 refine I1.laid (a:=s.heap.objs.size+1) (o:=.ins C s.heap.objs.size []) (t':=s.toks) (λb u q=>zUk _ q) (Nat.le_of_eq (zWn _ _)) ?_
 have ne:s.heap.objs.size≠s.heap.objs.size+1:=zU0 (zW0 _)
 refine ⟨by rw [zK ne,zM],zV7 _,ne,e2,λ_=>none,(Heap.Ns1.of_empty e3).at λo q=>zUk _ q,λ_=>True.intro,λy hy=>absurd rfl hy⟩
theorem zQT {prog:Program} {w:World} {env:Env} {e:Expr} {f:Str} {pos:Pos} {s:Shared} {Q:VSt} (hb:attributeBase e f env (eval e env)=eval e env)
  (h:wpAny (model prog w) A (eval e env) (λo s₁=>wpAny (model prog w) A (getAttr o f true) Q E s₁) E s):wpAny (model prog w) A (eval (.Attribute e f pos) env) Q E s:=
 Attribute_any_ h (by rw [arm_eval_Attribute,hb])
end
noncomputable def tFld (K:Fg) (ta:TE) (f:Str):TE:=λσ H Q=>ta σ H λx H1=>∃ a C dx fs v,x = .ref a/\H1 a=some (.ins C dx fs)/\Cls K C/\qO K C f/\fs.lookup f=some v/\Q v H1
noncomputable def sFld (K:Fg) (ta tv:TE) (f:Str):TS:=λD σ H=>tv σ H λy H1=>ta σ H1 λx H2=>∃ a C dx fs,x = .ref a/\H2 a=some (.ins C dx fs)/\Cls K C/\qO K C f/\fs.length<1000 /\
 D.nx σ (upd H2 a (.ins C dx (zCB f y fs)))
section
variable {X:Cx} {o e value:Expr} {f:Str} {pos pos' tpos:Pos} {ta tv:TE}
theorem zES (he:PE X e ta) (hb:attributeBase e f X.env (eval e X.env)=eval e X.env):PE X (.Attribute e f pos) (tFld X.K ta f):=by
 intro pins s σ H Q I h
 refine zQT hb (thn (he pins s σ H _ I h) λu s1 zz=>?_)
 obtain ⟨x,H1,I1,rx,a,C,dx,fs,v,ex,ea,c,n,l,q⟩:=zz
 subst ex
 obtain rfl:u=Value.ref a:=rx
 exact zKP I1 ea c n l λu' s2 I2 ru=>⟨v,H1,I2,ru,q⟩
theorem zLS (ha:PE X o ta) (hv:PE X value tv) (hs:swapsWith value (some (.Attribute o f pos')) pos.line X.env=pure false):PS X (.Assign [.Attribute o f pos'] value pos) (sFld X.K ta tv f):=by
 intro pins s σ H D I h
 refine plainObj_wpAny_Assign_Attribute (thn (hv pins s σ H _ I h) λu s1 ⟨y,H1,I1,ry,q⟩=>thn (ha pins s1 σ H1 _ I1 q) λov s2 ⟨x,H2,I2,rx,a,C,dx,fs,ex,ea,c,n,l,q2⟩=>?_) hs
 subst ex
 obtain rfl:ov=Value.ref a:=rx
 exact zKQ I2 ea c n l ry λs3 I3=>⟨σ,_,I3,q2⟩
theorem zQU {pl:Sem Bool} {m:Str} {apos:Pos} {args:List Expr} {pins:PNt} {s:Shared} {σ:St} {H:Hp} {Q:VSt} {te:TE} (he:PE X e te) (I:Inv X pins σ H s)
  (h:te σ H λx H1=>∃ a C dx fs g,x = .ref a/\H1 a=some (.ins C dx fs)/\Cls X.K C/\zQS X.K C m g/\fs.lookup m=none /\
   ∀ s1,Inv X pins σ H1 s1->wpAny (model X.prog X.w) X.A (callWith pos (.ref g) [.ref a] (backTo pos (starEach args X.env)) (backToKw pos (keywordEach [] X.env))) Q X.xe s1)
  (ht:eval (.Call (.Attribute e m apos) args [] pos) X.env=(do
   let ov <- eval e X.env
   standAt apos.atName
   let (f,first) <- holding [ov] (getMethod ov m pl)
   callWith pos f first (backTo pos (starEach args X.env)) (backToKw pos (keywordEach [] X.env)))) :
  wpAny (model X.prog X.w) X.A (eval (.Call (.Attribute e m apos) args [] pos) X.env) Q X.xe s:=by
 refine zWu (pl:=pl) (thn (he pins s σ H _ I h) λu s1 ⟨x,H1,I1,rx,a,C,dx,fs,g,ex,ea,c,k,l,q⟩=>?_) ht
 subst ex
 obtain rfl:u=Value.ref a:=rx
 exact zDS I1 ea c k l (q s1 I1)
end
section
variable {X:Cx} {pins:PNt} {σ:St} {H:Hp} {s:Shared} {A:Around} {E:VSt} {Q:VSt} {c:Value} {b:Bool}
end
end L2
namespace L2
open PySem PySem.Spec PyProof.Rows
structure zAO (k:Nat) (A:Around):Prop where
 hd:A.handled=none
 dp:A.depth+3*k+5<recursionLimit
 un:A.units+16*k+200<cLine
theorem zAO.mono {j k:Nat} {A:Around} (r:zAO k A) (h:j<=k):zAO j A:=⟨r.hd,by have:=r.dp;omega,by have:=r.un;omega⟩
theorem zAO.deeper {k:Nat} {A:Around} (r:zAO (k+1) A) (env:Env):zAO k (A.deeper env):=
 ⟨r.hd,by have:=r.dp;show A.depth+1+3*k+5<_;omega,by have:=r.un;show A.units+3+16*k+200<_;omega⟩
theorem zKR {A:Around} {C:Addr} {us:List Value} {kw:List (Str×Value)}:(A.under (.builtin "type.__call__" ⟨.ref C::us,kw⟩)).depth=A.depth+1:=by
 first|rfl|simp [Around.under,Code.weight,Code.isCreation,Code.isGuard,Code.isCaller,Code.frames,Code.isFrame,guardIds]
theorem zKS {A:Around} {C:Addr} {us:List Value} {kw:List (Str×Value)}:(A.under (.builtin "type.__call__" ⟨.ref C::us,kw⟩)).units=A.units+1:=by
 first|rfl|simp [Around.under,Code.cUnits,Code.frames,Code.isFrame]
theorem zAO.make {k:Nat} {A:Around} (r:zAO (k+1) A) (C:Addr) (us:List Value) (kw:List (Str×Value)):zAO k (A.under (.builtin "type.__call__" ⟨.ref C::us,kw⟩)):=
 ⟨r.hd,by have:=r.dp;rw [zKR];omega,by have:=r.un;rw [zKS];omega⟩
theorem zAO.depth {k:Nat} {A:Around} (r:zAO k A):A.depth<recursionLimit:=by have:=r.dp;omega
theorem zAO.units {k:Nat} {A:Around} (r:zAO k A):A.units+64<cLine:=by have:=r.un;omega
noncomputable def tNil:TA:=λ_ H Q=>Q [] H
noncomputable def zQV (ta:TE) (tr:TA):TA:=λσ H Q=>ta σ H λx H1=>tr σ H1 λxs H2=>Q (x::xs) H2
section
variable {X:Cx} {e:Expr} {es:List Expr} {te:TE} {t:TA} {pos:Pos}
theorem qC:PA X [] tNil:=λ_ _ _ _ H Q I h=>Calls.spliced_nil ⟨[],H,I,.nil,h⟩
theorem yF (ha:PE X e te) (hr:PA X es t) (hs:starEach (e::es) X.env=(false,eval e X.env)::starEach es X.env:=by rfl):PA X (e::es) (zQV te t):=by
 intro pos pins s σ H Q I h
 rw [hs]
 show wpAny _ _ (spliced ((false,eval e X.env)::backTo pos (starEach es X.env))) _ _ s
 refine Calls.spliced_cons (thn (ha pins s σ H _ I h) λu s1 zz=>?_)
 obtain ⟨x,H1,I1,r1,q1⟩:=zz
 exact thn (hr pos pins s1 σ H1 _ I1 q1) λus s2 ⟨xs,H2,I2,r2,q2⟩=>⟨x::xs,H2,I2,.cons r1 r2,q2⟩
noncomputable def tTup (t:TA):TE:=λσ H Q=>t σ H λxs H1=>xs.length<=sizeLine/\∀ p,H1 p=none->Q (.ref p) (upd H1 p (.tup xs))
noncomputable def tLst (t:TA):TE:=λσ H Q=>t σ H λxs H1=>xs.length<=sizeLine/\∀ p,H1 p=none->Q (.ref p) (upd H1 p (.lst xs))
theorem zSw {x1} (h:PA X es t):PE X (.Tuple es x1 pos) (tTup t):=by
 intro pins s σ H Q I hq
 refine wpAny_Tuple_spliced (thn (h pos pins s σ H _ I hq) λus s1 ⟨xs,H1,I1,r,z,q⟩=>⟨by rw [<- r.length];exact z,?_⟩)
 have hf:H1 s1.heap.objs.size=none:=I1.hok.fresh (zUn _)
 refine ⟨.ref s1.heap.objs.size,upd H1 s1.heap.objs.size (.tup xs),I1.laid (t':=s1.toks) (λb u e=>zUk _ e) (zUn _) ?_,rfl,q _ hf⟩
 exact ⟨z,us,r,⟨_,zU4 _ rfl,rfl,_,rfl,rfl⟩⟩
theorem zLT (h:PA X es t):PE X (.List es pos) (tLst t):=by
 intro pins s σ H Q I hq
 refine wpAny_List_spliced (thn (h pos pins s σ H _ I hq) λus s1 ⟨xs,H1,I1,r,z,q⟩=>⟨by rw [<- r.length];exact z,?_⟩)
 have hf:H1 s1.heap.objs.size=none:=I1.hok.fresh (zUn _)
 refine ⟨.ref s1.heap.objs.size,upd H1 s1.heap.objs.size (.lst xs),I1.laid (t':=s1.toks) (λb u e=>zUk _ e) (zUn _) ?_,rfl,q _ hf⟩
 exact ⟨z,us,0,r,zU4 _ rfl⟩
end
abbrev Sp:=List V->Hp->VK->XK->Prop
abbrev CXT:=List Env->Hp->Shared->XK->Value->Shared->Prop
structure zQW (P:Program) (w:World) (K:Fg) (mg:MGt) (base:Heap) (A:Around) (outer:List Env) (s:Shared) (H:Hp):Prop where
 frames:A.frames=some outer
 mod:Mod K mg base
 bs:∀ b o,base.get? b=some o->s.heap.get? b=some o/\H b=none
 bsz:base.objs.size<=s.heap.objs.size
 funs:s.heap.FunFrames base outer
 frf:∀ b∈frs outer,H b=none
 hok:HOk P w H s.heap
 bare:AllBare s.gens
def CE (outer:List Env) (P:Program) (w:World) (H:Hp) (s:Shared) (Q:VK) (u:Value) (s':Shared):Prop:=
 ∃ v H',s'.os=s.os/\AllBare s'.gens/\Un (frs outer) [] H H' s.heap s'.heap/\HOk P w H' s'.heap/\yr v u/\Q v H'
def CR (CX:CXT) (outer:List Env) (P:Program) (w:World) (H:Hp) (s:Shared) (Q:VK) (E:XK) (r:Result) (s':Shared):Prop:=
 match r with
 |.ok (.ret u)=>CE outer P w H s Q u s'
 |.ok _=>False
 |.error e=>CX outer H s E e s'
structure zCb (P:Program) (w:World) (K:Fg) (mg:MGt) (base:Heap) (CX:CXT) (k:Nat) (f:Addr) (fd:FuncData) (ps:List Str) (sp:Sp):Prop where
 len:∀ vs H Q E,sp vs H Q E->vs.length=ps.length
 run:∀ (A:Around) (outer:List Env) (s:Shared) (H:Hp) (args:Args) (us:List Value) (vs:List V) (Q:VK) (E:XK),zAO k A->zQW P w K mg base A outer s H->BindsTo s fd args (ps.zip us)->yP vs us->sp vs H Q E ->
  codeAny (model P w) A (.call (.ref f) args) (CR CX outer P w H s Q E) s
theorem zQW.make {P:Program} {w:World} {K:Fg} {mg:MGt} {base:Heap} {A:Around} {outer:List Env} {s:Shared} {H:Hp} (e:zQW P w K mg base A outer s H) (C:Addr) (us:List Value) (kw:List (Str×Value)) :
  zQW P w K mg base (A.under (.builtin "type.__call__" ⟨.ref C::us,kw⟩)) outer s H:=⟨by first|exact e.frames|(simpa [Around.under,Code.envs,Code.isFrame,pushEnvs] using e.frames),e.mod,e.bs,e.bsz,e.funs,e.frf,e.hok,e.bare⟩
section
variable {X:Cx} {pins:PNt} {σ:St} {H:Hp} {s s':Shared}
theorem Inv.env0 (I:Inv X pins σ H s):zQW X.prog X.w X.K X.mg X.base X.A X.stack s H:=
 ⟨I.ok.frames,I.ok.mod,I.bs,zVF I.ok.bsz I.sz,I.stack,I.stkFree,I.hok,I.bare⟩
theorem Inv.after {Q:VK} {u:Value} (I:Inv X pins σ H s) (h:CE X.stack X.prog X.w H s Q u s'):EP X pins σ Q u s':=by
 obtain ⟨v,H',os,bare,un,hok,r,q⟩:=h
 obtain ⟨hh,g,d,t,os'⟩:=s'
 obtain rfl:os'=s.os:=os
 exact ⟨v,H',I.call (h':=hh) (g':=g) (d':=d) (t':=t) (ch:=[]) un hok bare (λb z=>absurd z (by simp)),r,q⟩
end
noncomputable def tCall (sp:Sp) (dvs:List V) (E:XK) (t:TA):TE:=λσ H Q=>t σ H λvs H1=>sp (vs++dvs) H1 Q E
noncomputable def zSx (C:Addr) (m:Str) (sp:Sp) (dvs:List V) (E:XK) (ta:TE) (t:TA):TE:=λσ H Q=>ta σ H λx H1=>∃ a dx fs,x = .ref a/\H1 a=some (.ins C dx fs)/\fs.lookup m=none /\
 t σ H1 λvs H2=>sp (x::(vs++dvs)) H2 Q E
def zAu (K:Fg) (fd:FuncData) (ps:List Str) (ds:List Value):Prop:=
 ∀ (s:Shared) (us:List Value),K.In s.heap->(us++ds).length=ps.length->BindsTo s fd ⟨us,[]⟩ (ps.zip (us++ds))
theorem zAu.all {K:Fg} {fd:FuncData} {ps:List Str} (h:∀ us:List Value,us.length=ps.length->bindArgs fd ⟨us,[]⟩=pure (ps.zip us)):zAu K fd ps []:=λs us _ hl=>by
 rw [zVP] at hl ⊢
 exact .of_eq (h us hl)
def zBb (CX:CXT) (X:Cx) (E:XK):Prop:=∀ (pins:PNt) (σ:St) (H:Hp) (s:Shared) (e:Value) (s':Shared),Inv X pins σ H s->CX X.stack H s E e s'->X.xe e s'
section
variable {X:Cx} {CX:CXT} {k:Nat} {f C:Addr} {fd:FuncData} {ps:List Str} {sp:Sp} {dvs:List V} {ds:List Value} {E:XK} {x m:Str} {p pos apos:Pos} {e o:Expr} {es:List Expr} {ta:TE} {t:TA}
theorem zLU {pins:PNt} {σ:St} {H:Hp} {s:Shared} {Q:VK} {us:List Value} {vs:List V} (F:zCb X.prog X.w X.K X.mg X.base CX k f fd ps sp) (hr:zAO k X.A) (hb:zAu X.K fd ps ds) (hd:yP dvs ds) (hx:zBb CX X E)
  (I:Inv X pins σ H s) (r:yP vs us) (h:sp (vs++dvs) H Q E):wpAny (model X.prog X.w) X.A (call (.ref f) us) (EP X pins σ Q) X.xe s:=by
 have r2:yP (vs++dvs) (us++ds):=r.append hd
 have hl:(us++ds).length=ps.length:=by rw [<- r2.length];exact F.len _ _ _ _ h
 refine wpAny_call (codeAny_mono (F.run X.A X.stack s H ⟨us,[]⟩ (us++ds) (vs++dvs) Q E hr I.env0 (hb s us I.kIn hl) r2 h) λr s' hq=>?_)
 cases r with
 |error e=>exact hx pins σ H s e s' I hq
 |ok fl=>
  cases fl with
  |ret u=>exact I.after hq
  |next=>exact False.elim hq
  |brk=>exact False.elim hq
  |cont=>exact False.elim hq
theorem zGL (F:zCb X.prog X.w X.K X.mg X.base CX k f fd ps sp) (hr:zAO k X.A) (hg:Gl X x) (hm:X.mg x=some (.ref f)) (hk:PySem.W.keepIn X.K (.ref f)=true) (hb:zAu X.K fd ps ds) (hd:yP dvs ds) (hx:zBb CX X E)
  (ha:PA X (e::es) t) (hdb:(x == ("__debug__" : Str))=false:=by decide) (he:starEach (e::es) X.env=(false,eval e X.env)::starEach es X.env:=by rfl) (hpl:(backTo pos (starEach es X.env)).any (·.1)=false:=by rfl) :
  PE X (.Call (.Name x p) (e::es) [] pos) (tCall sp dvs E t):=by
 intro pins s σ H Q I h
 refine zWI (zGJ I hg hm ?_ hdb)
 refine zW8 (h₀:=X.base) I.ok.mod.kin hk (thn (ha pos pins s σ H _ I h) λus s1 ⟨vs,H1,I1,r,q⟩=>⟨I1.kIn,?_⟩) he hpl
 exact zLU F hr hb hd hx I1 r q
theorem zIX {pl:Sem Bool} (he:PE X o ta) (c:Cls X.K C) (hm:zQS X.K C m f) (F:zCb X.prog X.w X.K X.mg X.base CX k f fd ps sp) (hr:zAO k X.A) (hb:zAu X.K fd ps ds) (hd:yP dvs ds) (hx:zBb CX X E) (ha:PA X (e::es) t)
  (hst:starEach (e::es) X.env=(false,eval e X.env)::starEach es X.env:=by rfl) (hpl:(backTo pos (starEach es X.env)).any (·.1)=false:=by rfl)
  (ht:eval (.Call (.Attribute o m apos) (e::es) [] pos) X.env=(do
   let ov <- eval o X.env
   standAt apos.atName
   let (f,first) <- holding [ov] (getMethod ov m pl)
   callWith pos f first (backTo pos (starEach (e::es) X.env)) (backToKw pos (keywordEach [] X.env))):=by rfl) :
  PE X (.Call (.Attribute o m apos) (e::es) [] pos) (zSx C m sp dvs E ta t):=by
 intro pins s σ H Q I h
 refine zWu (pl:=pl) (thn (he pins s σ H _ I h) λu s1 ⟨x,H1,I1,rx,a,dx,fs,ex,ea,l,q⟩=>?_) ht
 subst ex
 obtain rfl:u=Value.ref a:=rx
 refine zDS I1 ea c hm l ?_
 refine zW8 (first:=[.ref a]) (h₀:=X.base) I.ok.mod.kin hm.kp (thn (ha pos pins s1 σ H1 _ I1 q) λus s2 ⟨vs,H2,I2,r,q2⟩=>⟨I2.kIn,?_⟩) hst hpl
 exact zLU (us:=.ref a::us) (vs:=.ref a::vs) F hr hb hd hx I2 (.cons rfl r) q2
theorem zNp {pl:Sem Bool} (he:PE X o ta) (c:Cls X.K C) (hm:zQS X.K C m f) (F:zCb X.prog X.w X.K X.mg X.base CX k f fd ps sp) (hr:zAO k X.A) (hb:zAu X.K fd ps ds) (hd:yP dvs ds) (hx:zBb CX X E)
  (ht:eval (.Call (.Attribute o m apos) [] [] pos) X.env=(do
   let ov <- eval o X.env
   standAt apos.atName
   let (f,first) <- holding [ov] (getMethod ov m pl)
   callWith pos f first (backTo pos (starEach [] X.env)) (backToKw pos (keywordEach [] X.env))):=by rfl) :
  PE X (.Call (.Attribute o m apos) [] [] pos) (zSx C m sp dvs E ta tNil):=by
 intro pins s σ H Q I h
 refine zWu (pl:=pl) (thn (he pins s σ H _ I h) λu s1 ⟨x,H1,I1,rx,a,dx,fs,ex,ea,l,q⟩=>?_) ht
 subst ex
 obtain rfl:u=Value.ref a:=rx
 refine zDS I1 ea c hm l ?_
 exact PySem.W.callWith_K0 (first:=[.ref a]) I1.kIn hm.kp (zLU (us:=[.ref a]) (vs:=[.ref a]) F hr hb hd hx I1 (.cons rfl .nil) q)
structure Mk (K:Fg) (C f:Addr):Prop where
 makes:PySem.W.makesIn K C=true
 init:PySem.W.findIn K (.ref C) "__init__" = some (some (.ref f))
 fn:PySem.W.isFn K (.ref f)=true
 kp:PySem.W.keepIn K (.ref C)=true
end
section
variable {X:Cx} {CX:CXT} {k:Nat} {f C:Addr} {fd:FuncData} {ps ks:List Str} {sp:Sp} {E:XK} {x m:Str} {p pos apos kpos:Pos} {e o:Expr} {es:List Expr} {kws:List Keyword} {te ta:TE} {t tk:TA} {nm:Option Str}
variable {g:List Value->List Value->List Value} {gV:List V->List V->List V}
end
structure zT (N P:List Str) (sc:Scope):Prop where
 kind:sc.kind = .function
 co:sc.isCoroutine=false
 gen:sc.isGenerator=false
 nd:N.Nodup
 pre:N.take P.length=P
 par:∀ x∈P,sc.names.lookup x=some .local\/sc.names.lookup x=some .cell
 nofree:∀ y∈sc.names,y.2≠.free
theorem zHH {kindOf:Str->Option NameKind} {x:Str}:∀ {binds:List (Str×Value)} {m:MGt},(∀ v,(x,v)∉binds)->bindL kindOf binds m x=m x
 | [],_,_=>rfl
 |(n,v)::r,m,h=>by
  unfold bindL
  rw [zHH λw hw=>h w (zUY _ hw)]
  split
  ·have:x≠n:=by rintro rfl;exact h v zUd
   simp [this]
  ·rfl
theorem zHI {kindOf:Str->Option NameKind} {x:Str}:∀ {binds:List (Str×Value)} {m:MGt},(∀ v,(x,v)∉binds)->bindC kindOf binds m x=m x
 | [],_,_=>rfl
 |(n,v)::r,m,h=>by
  unfold bindC
  rw [zHI λw hw=>h w (zUY _ hw)]
  split
  ·rfl
  ·have:x≠n:=by rintro rfl;exact h v zUd
   simp [this]
theorem zHJ {kindOf:Str->Option NameKind} {x:Str} {v:Value}:∀ {P:List Str} {vs:List Value} {i:Nat} {m:MGt},P.Nodup->P[i]?=some x->vs[i]?=some v->kindOf x=some .local ->
  bindL kindOf (P.zip vs) m x=some v
 | [],_,_,_,_,h,_,_=>by simp at h
 |_::_,[],_,_,_,_,h,_=>by simp at h
 |p::P,w::vs,0,m,nd,h1,h2,hk=>by
  simp at h1 h2;subst h1;subst h2
  show bindL kindOf ((p,w)::P.zip vs) m p=_
  unfold bindL
  rw [zHH λv hv=>(zVC.mp nd).1 (List.of_mem_zip hv).1,zUp hk]
  simp
 |p::P,w::vs,i+1,m,nd,h1,h2,hk=>by
  show bindL kindOf ((p,w)::P.zip vs) m x=_
  unfold bindL
  exact zHJ (i:=i) (zVC.mp nd).2 (by simpa using h1) (by simpa using h2) hk
theorem zHK {kindOf:Str->Option NameKind} {x:Str} {v:Value}:∀ {P:List Str} {vs:List Value} {i:Nat} {m:MGt},P.Nodup->P[i]?=some x->vs[i]?=some v->kindOf x≠some .local ->
  bindC kindOf (P.zip vs) m x=some v
 | [],_,_,_,_,h,_,_=>by simp at h
 |_::_,[],_,_,_,_,h,_=>by simp at h
 |p::P,w::vs,0,m,nd,h1,h2,hk=>by
  simp at h1 h2;subst h1;subst h2
  show bindC kindOf ((p,w)::P.zip vs) m p=_
  unfold bindC
  rw [zHI λv hv=>(zVC.mp nd).1 (List.of_mem_zip hv).1,zVD hk]
  simp
 |p::P,w::vs,i+1,m,nd,h1,h2,hk=>by
  show bindC kindOf ((p,w)::P.zip vs) m x=_
  unfold bindC
  exact zHK (i:=i) (zVC.mp nd).2 (by simpa using h1) (by simpa using h2) hk
noncomputable def zBj (N:List Str) (vs:List V):St:=vs.map some++List.replicate (N.length-vs.length) none
noncomputable def zGM (CX:CXT) (P:Program) (w:World) (K:Fg) (mg:MGt) (base:Heap) (N:List Str) (qual:Str) (scope:Scope) (f:Addr) (cd:Value) (A:Around) (outer:List Env) (s:Shared) (H:Hp) (E:XK):Cx where
 prog:=P
 w:=w
 K:=K
 mg:=mg
 base:=base
 A:=A.deeper (envOfC qual scope s.heap.objs.size f cd)
 N:=N
 s₀:=s
 H₀:=H
 env:=envOfC qual scope s.heap.objs.size f cd
 outer:=outer
 stack:=envOfC qual scope s.heap.objs.size f cd::outer
 ex:=[]
 calm:=true
 fn:=λ_=>true
 pn:=[]
 xe:=λe s'=>wpAny (model P w) (A.deeper (envOfC qual scope s.heap.objs.size f cd)) (leaving (envOfC qual scope s.heap.objs.size f cd) e) (λ_ s''=>CX outer H s E e s'') (λe' s''=>CX outer H s E e' s'') s'
theorem zJR {sc:Scope} {n:Nat} {x:Str} (h:sc.names.lookup x=some .cell):∃ c,(cellsFrom n sc.names []).lookup x=some c:=by
 have q:=PySem.W.cellsFrom_some sc.names n [] (.inl h)
 exact Option.isSome_iff_exists.mp q
theorem zLV {CX:CXT} {P:Program} {w:World} {K:Fg} {mg:MGt} {base:Heap} {N ps:List Str} {qual:Str} {scope:Scope} {f:Addr} {cd:Value} {A:Around} {outer:List Env} {s s1:Shared} {H:Hp} {E:XK} {us:List Value} {vs:List V}
  (S:zT N ps scope) (hd:A.handled=none) (e0:zQW P w K mg base A outer s H) (hl:vs.length=ps.length) (r:yP vs us)
  (x:InCallC s s.heap.objs.size (bindL (envOfC qual scope s.heap.objs.size f cd).kindOf (ps.zip us) λ_=>none) (cellsFrom (s.heap.objs.size+1) scope.names []) (bindC (envOfC qual scope s.heap.objs.size f cd).kindOf (ps.zip us) λ_=>none) s1) :
  Inv (zGM CX P w K mg base N qual scope f cd A outer s H E) [] (zBj N vs) H s1:=by
 have hpl:ps.length<=N.length:=by have:=zVX List.length S.pre;rw [zWy] at this;omega
 obtain ⟨h1,tk,rfl,hk⟩:=x.done
 have noA:∀ b:Addr,b∉(zGM CX P w K mg base N qual scope f cd A outer s H E).ex:=λb z=>absurd (show b∈([]:List Addr) from z) (by simp)
 refine ⟨⟨e0.mod,S.kind,rfl,rfl,zUn _,λy z c h1 h2=>?_,λy hy=>?_,λy c _ h=>?_,λ_=>hd,Around.frames_deeper e0.frames,.inr ⟨rfl,rfl⟩,λb z=>absurd z (noA b),e0.bs,e0.bsz,λb _ _=>noA b,λb z=>absurd z (noA b),e0.funs,e0.frf⟩,
  rfl,e0.bare,Un.kept hk,⟨_,x.toInCall.ns,λi y v h1 h2 h3=>?_⟩,λy c h=>⟨_,x.cell y c h⟩,e0.hok.fresh (zUn _),λy c h=>?_,λp hp=>absurd (show p∈([]:PNt) from hp) (by simp),e0.hok.kept hk,?_⟩
 ·exact name_of_addr x.apart (zVj h1) (zVj h2)
 ·have hy:scope.names.lookup y=some .cell\/scope.names.lookup y=some .free:=hy
  rcases hy with hy|hy
  ·exact zJR hy
  ·exact absurd rfl (S.nofree _ (zVj hy))
 ·exact Nat.le_of_lt (x.above y c (zVj h))
 ·have hi:i<vs.length:=by
   unfold zBj at h2
   by_cases hi:i<vs.length
   ·exact hi
   ·rw [zU8 (by simpa using hi)] at h2
    rw [zVT] at h2
    split at h2<;>cases h2
  have ha:vs[i]?=some v:=by
   unfold zBj at h2
   rw [zU5 (by simpa using hi),zVK] at h2
   cases e:vs[i]? with
   |none=>rw [e] at h2;cases h2
   |some a=>rw [e] at h2;cases h2;rfl
  obtain ⟨u,hu,rv⟩:=r.get ha
  have hp:ps[i]?=some y:=by
   rw [<- S.pre,List.getElem?_take_of_lt (by omega)];exact h1
  have ndP:ps.Nodup:=by rw [<- S.pre];exact S.nd.sublist (List.take_sublist _ _)
  refine ⟨u,rv,?_⟩
  rcases S.par y (zU3 hp) with k|k
  ·exact .inl ⟨k,zHJ ndP hp hu k⟩
  ·obtain ⟨c,e⟩:=zJR (n:=s.heap.objs.size+1) k
   refine .inr ⟨.inl k,c,e,?_⟩
   have q:=x.cell y c e
   rw [zHK ndP hp hu (by show scope.names.lookup y≠_;rw [k];decide)] at q
   exact q
 ·exact e0.hok.fresh (Nat.le_of_lt (x.above y c (zVj h)))
 ·unfold zBj
  show _=N.length
  rw [zUr,zUi,zWs]
  omega
theorem zNq {CX:CXT} {P:Program} {w:World} {K:Fg} {mg:MGt} {base:Heap} {k:Nat} {f:Addr} {name qual:Str} {params:Arguments} {body:List Stmt} {scope:Scope} {dV kV doc pm cdv ct oc:Value} {an od:Option Addr}
  {osl:Array (Option Value)} {N ps:List Str} {sp:Sp} (lk:K.lookup f=some ⟨oc,od,.func (PySem.W.fnOf name qual params body scope dV kV doc pm an cdv ct),osl⟩) (hcd:PySem.W.codeIn K cdv qual=true) (S:zT N ps scope)
  (len:∀ vs H Q E,sp vs H Q E->vs.length=ps.length)
  (hbody:∀ (A:Around) (outer:List Env) (s:Shared) (H:Hp) (vs:List V) (Q:VK) (E:XK),zAO k (A.deeper (envOfC qual scope s.heap.objs.size f cdv))->sp vs H Q E ->
   ∃ t,PSs (zGM CX P w K mg base N qual scope f cdv A outer s H E) body t/\t { nx:=λ_ H'=>Q .non H',rt:=Q } (zBj N vs) H) :
  zCb P w K mg base CX (k+1) f (PySem.W.fnOf name qual params body scope dV kV doc pm an cdv ct) ps sp:=by
 refine ⟨len,λA outer s H args us vs Q E hr e0 hb r hsp=>?_⟩
 have hl:=len _ _ _ _ hsp
 have KX:K.In s.heap:=e0.mod.kin.keeps λb o e=>(e0.bs b o e).1
 have lim:s.heap.NoLimit:=e0.mod.nolimit.keeps λb o e=>(e0.bs b o e).1
 have hkind:∀ y∈ps.zip us,scope.names.lookup y.1=some .local\/(scope.names.lookup y.1=some .cell/\((cellsFrom (s.heap.objs.size+1) scope.names []).lookup y.1).isSome=true):=by
  rintro ⟨n,v⟩ hy
  rcases S.par n (List.of_mem_zip hy).1 with q|q
  ·exact .inl q
  ·exact .inr ⟨q,PySem.W.cellsFrom_some _ _ _ (.inl q)⟩
 refine codeAny_call_function hr.depth (KX _ _ lk) rfl S.co S.gen rfl (PySem.W.codeRec_of KX hcd) (hb _ _ _ _ ?_)
 refine wpAny_newFunctionEnv_cells S.kind hkind λenv he s1 x=>?_
 subst he
 refine ⟨lim.keeps x.toInCall.keep,codeAny_func ?_⟩
 obtain ⟨t,ht,hq⟩:=hbody A outer s H vs Q E (hr.deeper _) hsp
 have I:Inv (zGM CX P w K mg base N qual scope f cdv A outer s H E) [] (zBj N vs) H s1:=zLV S hr.hd e0 hl r x
 refine zVM (ht [] s1 (zBj N vs) H _ I hq) (λfl s' hs=>?_) λe s' hs=>hs
 have fin:∀ {σ':St} {H':Hp} {v:V} {u:Value},Inv (zGM CX P w K mg base N qual scope f cdv A outer s H E) [] σ' H' s'->yr v u->Q v H'->CE outer P w H s Q u s':=
  λ{σ' H' v u} J rv q=>⟨v,H',J.os,J.bare,J.base,J.hok,rv,q⟩
 cases fl with
 |ret u=>
  obtain ⟨v,σ',H',J,rv,q⟩:=hs
  exact fin J rv q
 |next=>
  obtain ⟨σ',H',J,q⟩:=hs
  exact fin (v:=V.non) (u:=Value.none) J rfl q
 |brk=>
  obtain ⟨_,_,_,q⟩:=hs
  exact False.elim q
 |cont=>
  obtain ⟨_,_,_,q⟩:=hs
  exact False.elim q
end L2
namespace L2
open PySem PySem.Spec PyProof.Rows
section
variable {X:Cx} {x:Str} {p pos:Pos} {e:Expr} {es:List Expr} {t:TA} {id T:String} {r:List V->Hp->VK->Prop}
noncomputable def tCB (r:List V->Hp->VK->Prop) (t:TA):TE:=λσ H Q=>t σ H λvs H1=>r vs H1 Q
theorem zCl (hc:zAt X (.builtin id) r) (hg:Gl X x) (hm:X.mg x=none) (hv:bootBuiltins x=some (.builtin id)) (ha:PA X (e::es) t) (hn:x ≠ "__name__":=by decide) (hdb:(x == ("__debug__" : Str))=false:=by decide)
  (he:starEach (e::es) X.env=(false,eval e X.env)::starEach es X.env:=by rfl) (hpl:(backTo pos (starEach es X.env)).any (·.1)=false:=by rfl):PE X (.Call (.Name x p) (e::es) [] pos) (tCB r t):=by
 intro pins s σ H Q I h
 refine zWI (zFf I hg hm hv ?_ hn hdb)
 exact PyProof.Rows.callWith_builtin1 (thn (ha pos pins s σ H _ I h) λus s1 ⟨vs,H1,I1,r1,q1⟩=>hc pins s1 σ H1 vs us Q I1 r1 q1) he hpl
theorem zET (hc:zAt X (.type T) r) (hg:Gl X x) (hm:X.mg x=none) (hv:bootBuiltins x=some (.type T)) (ha:PA X (e::es) t) (hn:x ≠ "__name__":=by decide) (hdb:(x == ("__debug__" : Str))=false:=by decide)
  (he:starEach (e::es) X.env=(false,eval e X.env)::starEach es X.env:=by rfl) (hpl:(backTo pos (starEach es X.env)).any (·.1)=false:=by rfl):PE X (.Call (.Name x p) (e::es) [] pos) (tCB r t):=by
 intro pins s σ H Q I h
 refine zWI (zFf I hg hm hv ?_ hn hdb)
 exact zV0 (thn (ha pos pins s σ H _ I h) λus s1 ⟨vs,H1,I1,r1,q1⟩=>hc pins s1 σ H1 vs us Q I1 r1 q1) he hpl
end
end L2
namespace HT
open PySem PyProof.Rows
section
open PySem.SeqAt
open PySem.AutoSeq1 (wpAny_loadPart')
open PySem.MeetsSeq PySem.MeetsSeq2 PySem.MeetsSeq3
end
section
variable {prog:Program} {w:World} {A:Around} {E:VSt} {s:Shared}
theorem zQX {t b:Addr} {vs ws:List Value} {Q:VSt} (ht:IsTup s.heap t vs.toArray) (hb:IsTup s.heap b ws.toArray) (hv:vs≠[])
  (h1:ws = []->Q (.ref t) s) (h2:ws≠[]->Q (.ref s.heap.objs.size) { s with heap:=s.heap.push { cls:=.type "tuple",data:=.seq (vs++ws).toArray } })
  (hsz:vs.length+ws.length<=sizeLine):wpAny (model prog w) A (binaryOp .Add (.ref t) (.ref b)) Q E s:=by
 obtain ⟨⟨cls,dd,data,sl⟩,ho,hc,n,hd⟩:=id ht
 obtain ⟨⟨cls2,dd2,data2,sl2⟩,ho2,hc2,n2,hd2⟩:=id hb
 simp only at hc hd hc2 hd2
 subst hc hd hc2 hd2
 have e:vs.toArray++ws.toArray=(vs++ws).toArray:=by simp
 by_cases hw:ws = []
 ·exact concat_meets ⟨_,ho,rfl⟩ ⟨_,ho2,rfl⟩ noFill_tuple_add seq_tuple_add zWg zWc (zWX _ _)
   (tuple_addW1 t b vs.toArray ws.toArray n n2 dd dd2 sl sl2 (by simpa using hv) (by simp [hw])) ⟨ho,ho2,h1 hw⟩
 ·refine concat_meets ⟨_,ho,rfl⟩ ⟨_,ho2,rfl⟩ noFill_tuple_add seq_tuple_add zWg zWc (zWX _ _)
   (tuple_addW2 t b vs.toArray ws.toArray n n2 dd dd2 sl sl2 (by simpa using hv) (by simpa using hw) (by rw [zUh,zUh];exact hsz)) ⟨ho,ho2,?_⟩
  rw [e]
  exact h2 hw
def sIx (n d:Nat):Option Int->Nat
 |none=>d
 |some v=>if v<0 then (v+(n:Int)).toNat else min v.toNat n
theorem zSy (n d:Nat) (hd:d<=n) (o:Option Int):sIx n d o<=n:=by
 cases o with
 |none=>exact hd
 |some v=>
  show (if v<0 then (v+(n:Int)).toNat else min v.toNat n)<=n
  by_cases hv:v<0
  ·rw [zUp hv];omega
  ·rw [zVD hv];exact Nat.min_le_right _ _
theorem zLW (v:Int) (n d:Nat):(if v<0 then max (v+(n:Int)) 0 else min v (n:Int))=((sIx n d (some v):Nat):Int):=by
 show (if v<0 then max (v+(n:Int)) 0 else min v (n:Int))=(((if v<0 then (v+(n:Int)).toNat else min v.toNat n):Nat):Int)
 by_cases hv:v<0
 ·simp only [zUp hv];omega
 ·simp only [zVD hv];omega
theorem zKT (lo hi:Option Int) (n:Nat):Builtin.Slice.sliceAdjust lo hi 1 (n:Int)=(((sIx n 0 lo:Nat):Int),((sIx n n hi:Nat):Int)):=by
 have h1:¬ ((1:Int)<0):=by omega
 unfold Builtin.Slice.sliceAdjust
 simp only [h1,zVg]
 refine Prod.ext ?_ ?_
 ·cases lo with
  |none=>rfl
  |some v=>exact zLW v n 0
 ·cases hi with
  |none=>rfl
  |some v=>exact zLW v n n
theorem zKU (i j:Nat):Builtin.Slice.slicePlaces (i:Int) (j:Int) 1=j-i:=by
 unfold Builtin.Slice.slicePlaces
 have h1:(1:Int)>0:=by omega
 simp only [h1,zVU,Int.ediv_one]
 split<;>omega
theorem zFh {v:Value} {o:Option Int} {Q:Option Int->Shared->Prop} (p:IsPart v o) (h:Q o s):wpAny (model prog w) A (Builtin.Slice.slicePartIndex v) Q E s:=by
 cases p with
 |none=>exact slicePart_none h
 |int i t=>exact slicePart_int h
theorem zBc {sl:Addr} {vl vu:Value} {lo hi:Option Int} {n:Nat} {Q:Int×Int×Nat->Shared->Prop} (hs:s.heap.IsSliceOf sl vl vu .none) (pl:IsPart vl lo) (pu:IsPart vu hi)
  (h:Q (((sIx n 0 lo:Nat):Int),1,sIx n n hi-sIx n 0 lo) s):wpAny (model prog w) A (Builtin.Slice.sliceApplied (.ref sl) (pure (n:Int))) Q E s:=by
 obtain ⟨os,hos,hcs,hds⟩:=id hs
 unfold Builtin.Slice.sliceApplied Builtin.Slice.sliceFields
 refine zUe (zUe (zWm hos hds (x:=vl) rfl (zUe (zWm hos hds (x:=vu) rfl (zUe (zWm hos hds (x:=.none) rfl (zUl ?_)))))))
 refine zUe (slicePart_none ?_)
 show wpAny _ _ (if ((1:Int) == 0)=true then _ else _) _ _ s
 rw [zVD (by decide)]
 refine zUe (zFh pl (zUe (zFh pu (zUe (zUl ?_)))))
 show wpAny _ _ (match Builtin.Slice.sliceAdjust lo hi 1 (n:Int) with|(lo,hi)=>pure (lo,(1:Int),Builtin.Slice.slicePlaces lo hi 1)) _ _ s
 rw [zKT lo hi n]
 show wpAny _ _ (pure (((sIx n 0 lo:Nat):Int),(1:Int),Builtin.Slice.slicePlaces ((sIx n 0 lo:Nat):Int) ((sIx n n hi:Nat):Int) 1)) _ _ s
 rw [zKU]
 exact zUl h
theorem zNr (xs:Array Value) (i k:Nat):((List.range k).filterMap λ(m:Nat)=>xs[((i:Int)+(m:Int)*1).toNat]?).toArray=((xs.toList.drop i).take k).toArray:=by
 have e:(λ(m:Nat)=>xs[((i:Int)+(m:Int)*1).toNat]?)=λm=>xs[i+m]?:=by
  funext m
  have:((i:Int)+(m:Int)*1).toNat=i+m:=by omega
  rw [this]
 rw [e]
 have:=pick_run xs i k
 rw [List.filterMap_map] at this
 have e2:((λx=>xs[x]?)∘λx=>i+x)=λm=>xs[i+m]?:=rfl
 rw [e2] at this
 rw [this]
theorem zDT {t sl:Addr} {items:Array Value} {vl vu:Value} {lo hi:Option Int} {Q:VSt} (ht:IsTup s.heap t items) (hs:s.heap.IsSliceOf sl vl vu .none) (pl:IsPart vl lo) (pu:IsPart vu hi)
  (hw:¬ (sIx items.size 0 lo=0/\sIx items.size items.size hi=items.size))
  (h:Q (.ref s.heap.objs.size) { s with heap:=s.heap.push { cls:=.type "tuple",data:=.seq ((items.toList.drop (sIx items.size 0 lo)).take (sIx items.size items.size hi-sIx items.size 0 lo)).toArray } })
  (hsz:items.size<=sizeLine):wpAny (model prog w) A (getItem (.ref t) (.ref sl)) Q E s:=by
 have htake:sizeOk (.seq ((items.toList.drop (sIx items.size 0 lo)).take (sIx items.size items.size hi-sIx items.size 0 lo)).toArray):=by
  show ((items.toList.drop (sIx items.size 0 lo)).take (sIx items.size items.size hi-sIx items.size 0 lo)).toArray.size<=sizeLine
  rw [zUh,zWy,zWx,zWV]
  omega
 have hj:sIx items.size items.size hi<=items.size:=zSy _ _ (zUn _) hi
 obtain ⟨os,hos,hcs,hds⟩:=id hs
 have hTs:s.TypeIs (.ref sl) "slice":=⟨os,hos,hcs⟩
 unfold getItem
 try with_reducible refine zV5 ?_
 first|refine zUe (zUl ?_)|skip
 refine zUe (wpAny_sequenceKey ht.typeIs (by decide) ?_)
 refine zUe (wpAny_callSpecial?_slot (name:=Str.ofString "__getitem__") ht.typeIs zVo
  (wpAny_call_entry zVo ht.typeIs entry_tuple_getitem ?_ (args_tuple_getitem _ _)))
 show wpAny _ _ (Builtin.Tuple.tupleItemsOf (.ref t) >>= _) _ _ s
 refine zUe (tupleItemsOf_ ht ?_)
 refine zUe (zWZ hTs ?_)
 rw [zUp (by decide)]
 refine zUe (zBc hs pl pu ?_)
 have hno:¬ ((((sIx items.size 0 lo:Nat):Int) == 0 && (1:Int) == 1 && (sIx items.size items.size hi-sIx items.size 0 lo) == items.size)=true):=by
  intro q
  rw [zVR,zVR] at q
  have q1:((sIx items.size 0 lo:Nat):Int)=0:=eq_of_beq q.1.1
  have q2:sIx items.size items.size hi-sIx items.size 0 lo=items.size:=eq_of_beq q.2
  exact hw ⟨by omega,by omega⟩
 show wpAny _ _ (if (((sIx items.size 0 lo:Nat):Int) == 0 && (1:Int) == 1 && (sIx items.size items.size hi-sIx items.size 0 lo) == items.size)=true then _ else _) _ _ s
 rw [zVD hno,zNr]
 first
  |exact zUe (m:=Builtin.Tuple.tupleExact _) (zWQ (zUl ⟨_,rfl,zUl h⟩) htake)
  |exact zUe (m:=Builtin.Tuple.tupleExact _) (zWQ (zUe (zUl (zUl ⟨_,rfl,zUl h⟩))) htake)
  |exact zUe (zUe (m:=Builtin.Tuple.tupleExact _) (zWQ (zUl (zUl ⟨_,rfl,zUl h⟩)) htake))
  |exact zUe (zUe (m:=Builtin.Tuple.tupleExact _) (zWQ (zUl ⟨_,rfl,zUl h⟩) htake))
end
end HT
namespace L2
open PySem PySem.Spec PyProof.Rows
abbrev TO:=St->Hp->(Option Int->Hp->Prop)->Prop
def PO (X:Cx) (e:Option Expr) (t:TO):Prop:=
 ∀ (pins:PNt) (s:Shared) (σ:St) (H:Hp) (Q:Option Int->Hp->Prop),Inv X pins σ H s->t σ H Q ->
  wpAny (model X.prog X.w) X.A (evalPart e X.env) (λu s'=>∃ o H',Inv X pins σ H' s'/\IsPart u o/\Q o H') X.xe s
noncomputable def zQY:TO:=λ_ H Q=>Q none H
noncomputable def tPart (t:TE):TO:=λσ H Q=>t σ H λx H1=>∃ i,x = .int i/\Q (some i) H1
theorem zFi {ns:List Int}:∀ {us:List Value},yP (ns.map V.int) us->IntsAre us ns:=by
 induction ns with
 |nil=>intro us r;rw [zVq] at r;cases r;exact .nil
 |cons n ns ih=>
  intro us r
  rw [zUc] at r
  cases r with
  |cons r1 r2=>
   obtain ⟨t,e⟩:=r1
   subst e
   exact .cons n t (ih r2)
section
variable {X:Cx} {e:Expr} {te:TE} {lo hi:Option Expr} {tl th:TO} {pos p2:Pos}
theorem zQZ:PO X none zQY:=by
 intro pins s σ H Q I h
 rw [evalPart_none]
 exact zUl ⟨none,H,I,.none,h⟩
theorem zQa (h:PE X e te):PO X (some e) (tPart te):=by
 intro pins s σ H Q I hw
 rw [evalPart_some]
 refine thn (h pins s σ H _ I hw) λu s1 zz=>?_
 obtain ⟨x,H1,I1,r1,q1⟩:=zz
 obtain ⟨i,rfl,q⟩:=q1
 obtain ⟨t,rfl⟩:=r1
 exact ⟨some i,H1,I1,.int i t,q⟩
def SlR (X:Cx) (r:V->Option Int->Option Int->Hp->VK->Prop):Prop:=
 ∀ (pins:PNt) (s:Shared) (σ:St) (H:Hp) (x:V) (v vl vu:Value) (lo hi:Option Int) (sl:Addr) (Q:VK),Inv X pins σ H s->yr x v->s.heap.IsSliceOf sl vl vu .none->IsPart vl lo->IsPart vu hi->r x lo hi H Q ->
  ∃ T id,typeLookup (.type T) "__getitem__" = pure (some (.builtin id))/\s.TypeIs v T/\wpAny (model X.prog X.w) X.A (getItem v (.ref sl)) (EP X pins σ Q) X.xe s
noncomputable def tSl (r:V->Option Int->Option Int->Hp->VK->Prop) (te:TE) (tl th:TO):TE:=λσ H Q=>te σ H λx H1=>tl σ H1 λl H2=>th σ H2 λu H3=>r x l u H3 Q
theorem zJS {r:V->Option Int->Option Int->Hp->VK->Prop} (hr:SlR X r) (he:PE X e te) (hl:PO X lo tl) (hu:PO X hi th):PE X (.Subscript e (.Slice lo hi none p2) pos) (tSl r te tl th):=by
 intro pins s σ H Q I h
 refine Subscript_ (thn (he pins s σ H _ I h) λv s1 zz=>?_)
 obtain ⟨x,H1,I1,r1,q1⟩:=zz
 refine wpAny_Slice (thn (hl pins s1 σ H1 _ I1 q1) λvl s2 ⟨l,H2,I2,pl,q2⟩=>thn (hu pins s2 σ H2 _ I2 q2) λvu s3 zz=>?_)
 obtain ⟨u,H3,I3,pu,q3⟩:=zz
 rw [evalPart_none]
 refine zUl ?_
 have I4:Inv X pins σ H3 { s3 with heap:=s3.heap.push { cls:=.type "slice",data:=.fields #[vl,vu,.none] } }:=I3.kept (t':=s3.toks) λb ob q=>zUk _ q
 obtain ⟨T,id,hT,ht,hg⟩:=hr pins { s3 with heap:=s3.heap.push { cls:=.type "slice",data:=.fields #[vl,vu,.none] } } σ H3 x v vl vu l u s3.heap.objs.size Q I4 r1 (Heap.IsSliceOf.new ..) pl pu q3
 show wpAny (model X.prog X.w) X.A (subscriptTail e (.Slice lo hi none p2) v (.ref s3.heap.objs.size)) (EP X pins σ Q) X.xe { s3 with heap:=s3.heap.push { cls:=.type "slice",data:=.fields #[vl,vu,.none] } }
 exact tail_any (ops:=[.ref s3.heap.objs.size,v]) ht hT hg (by with_unfolding_all rfl)
noncomputable def zPa (xs:List V) (lo hi:Option Int):List V:=(xs.drop (HT.sIx xs.length 0 lo)).take (HT.sIx xs.length xs.length hi-HT.sIx xs.length 0 lo)
theorem zEU (xs:List V) (lo hi:Option Int):(zPa xs lo hi).length<=xs.length:=by
 unfold zPa
 rw [zWy,zWx]
 omega
noncomputable def rSlT (K:Fg):V->Option Int->Option Int->Hp->VK->Prop:=λx lo hi H Q=>∃ a xs,x = .ref a/\SqT K H a xs /\
 ¬ (HT.sIx xs.length 0 lo=0/\HT.sIx xs.length xs.length hi=xs.length)/\∀ p,H p=none->Q (.ref p) (upd H p (.tup (zPa xs lo hi)))
theorem zSz:SlR X (rSlT X.K):=by
 intro pins s σ H x v vl vu lo hi sl Q I rx hs pl pu h
 obtain ⟨a,xs,rfl,hx,hw,q⟩:=h
 cases rx
 obtain ⟨its,r,ht,hz⟩:=I.tuple hx
 have hlen:its.toArray.size=xs.length:=by rw [zUh];exact r.length.symm
 refine ⟨"tuple",_,PyProof.Rows.slot_tuple_getitem.lookup,ht.typeIs,?_⟩
 refine HT.zDT ht hs pl pu (by rw [hlen];exact hw) ?_ (by rw [hlen];exact hz)
 rw [hlen]
 refine ⟨.ref s.heap.objs.size,_,I.laid (t':=s.toks) (o:=.tup (zPa xs lo hi)) (λb ob q=>zUk _ q) (zUn _) ?_,rfl,q _ (I.hok.fresh (zUn _))⟩
 exact ⟨zVF (zEU xs lo hi) hz,_,(r.drop (HT.sIx xs.length 0 lo)).take (HT.sIx xs.length xs.length hi-HT.sIx xs.length 0 lo),zA6.new _ _⟩
noncomputable def rCatT (K:Fg):R2:=λx y H Q=>∃ a b xs ys,x = .ref a/\y = .ref b/\SqT K H a xs/\SqT K H b ys/\xs≠[]/\xs.length+ys.length<=sizeLine /\
 (ys = []->Q (.ref a) H)/\(ys≠[]->∀ p,H p=none->Q (.ref p) (upd H p (.tup (xs++ys))))
theorem yP.nil_iff {xs:List V} {us:List Value} (r:yP xs us):us = []↔xs = []:=by
 cases r with
 |nil=>simp
 |cons _ _=>simp
theorem zQb:OpR X (binaryOp .Add) (rCatT X.K):=by
 intro pins s σ H x y v u Q I rx ry h
 obtain ⟨a,b,xs,ys,rfl,rfl,ha,hb,hx,hz,q1,q2⟩:=h
 cases rx
 cases ry
 obtain ⟨its,r1,p1,_⟩:=I.tuple ha
 obtain ⟨its2,r2,p2,_⟩:=I.tuple hb
 refine HT.zQX p1 p2 (λz=>hx (r1.nil_iff.mp z)) (λz=>⟨.ref a,H,I,rfl,q1 (r2.nil_iff.mp z)⟩) (λz=>?_) (by rw [<- r1.length,<- r2.length];exact hz)
 refine ⟨.ref s.heap.objs.size,_,I.laid (t':=s.toks) (o:=.tup (xs++ys)) (λb ob q=>zUk _ q) (zUn _) ?_,rfl,q2 (λw=>z (r2.nil_iff.mpr w)) _ (I.hok.fresh (zUn _))⟩
 exact ⟨by rw [zUr];exact hz,_,r1.append r2,zA6.new _ _⟩
end
end L2
namespace L2
open PySem PySem.Spec PyProof.Rows
noncomputable def ixN (n:Nat) (i:Int):Option Nat:=if 0<=i then (if i<n then some i.toNat else none) else if -(n:Int)<=i then some (i+n).toNat else none
noncomputable def atI {α:Type} (xs:List α) (i:Int):Option α:=(ixN xs.length i).bind λj=>xs[j]?
theorem zLX {n:Nat} {i:Int} {j:Nat} (h:ixN n i=some j):seqIndex? i n=some j/\j<n/\-(n:Int)<=i/\i<n:=by
 unfold ixN at h
 by_cases h0:0<=i
 ·rw [zUp h0] at h
  by_cases h1:i<n
  ·rw [zUp h1] at h
   have e:i.toNat=j:=zVY h
   exact ⟨by rw [seqIndex_of h0 h1,e],by omega,by omega,h1⟩
  ·rw [zVD h1] at h;cases h
 ·rw [zVD h0] at h
  by_cases h1 : -(n:Int)<=i
  ·rw [zUp h1] at h
   have e:(i+n).toNat=j:=zVY h
   exact ⟨by rw [seqIndex_neg (by omega) h1,e],by omega,h1,by omega⟩
  ·rw [zVD h1] at h;cases h
theorem zIY {α:Type} {xs:List α} {i:Int} {v:α} (h:atI xs i=some v):∃ j,seqIndex? i xs.length=some j/\xs[j]?=some v/\j<xs.length/\-(xs.length:Int)<=i/\i<xs.length:=by
 unfold atI at h
 cases e:ixN xs.length i with
 |none=>rw [e] at h;cases h
 |some j=>
  rw [e] at h
  obtain ⟨h1,h2,h3,h4⟩:=zLX e
  exact ⟨j,h1,h,h2,h3,h4⟩
def zLY (b:Expr):Prop:=∀ o i,subscripted b false o i=operate [o,i] (getItem o i)
def IxR (X:Cx) (r:R2):Prop:=
 ∀ (value slice:Expr) (pins:PNt) (s:Shared) (σ:St) (H:Hp) (x y:V) (v u:Value) (Q:VK),Inv X pins σ H s->yr x v->yr y u->r x y H Q ->
  subscripted slice false v u=operate [v,u] (getItem v u)->wpAny (model X.prog X.w) X.A (subscriptTail value slice v u) (EP X pins σ Q) X.xe s
def MtR (X:Cx) (id:String) (r:V->List V->Hp->VK->Prop):Prop:=
 ∀ (pins:PNt) (s:Shared) (σ:St) (H:Hp) (x:V) (xs:List V) (v:Value) (us:List Value) (Q:VK),Inv X pins σ H s->yr x v->yP xs us->r x xs H Q ->
  wpAny (model X.prog X.w) X.A (call (.builtin id) (v::us)) (EP X pins σ Q) X.xe s
section
variable {X:Cx} {a b:Expr} {ta tb:TE} {pos:Pos}
theorem IxR.or {r r':R2} (h:IxR X r) (h':IxR X r'):IxR X (λx y H Q=>r x y H Q\/r' x y H Q):=by
 intro value slice pins s σ H x y v u Q I rx ry q hs
 rcases q with q|q
 ·exact h value slice pins s σ H x y v u Q I rx ry q hs
 ·exact h' value slice pins s σ H x y v u Q I rx ry q hs
theorem pe_ix {r:R2} (hr:IxR X r) (ha:PE X a ta) (hb:PE X b tb) (hs:zLY b):PE X (.Subscript a b pos) (tOp r ta tb):=by
 intro pins s σ H Q I h
 exact Subscript_ (binT ha hb I h λv u s2 x y H2 I2 rx ry q=>hr a b pins s2 σ H2 x y v u Q I2 rx ry q (hs _ _))
noncomputable def rIxL (K:Fg):R2:=λx y H Q=>∃ p xs i v,x = .ref p/\y = .int i/\SqL K H p xs/\atI xs i=some v/\Q v H
noncomputable def rIxT (K:Fg):R2:=λx y H Q=>∃ p xs i v,x = .ref p/\y = .int i/\SqT K H p xs/\atI xs i=some v/\Q v H
noncomputable def rIxS:R2:=λx y H Q=>∃ z i c,x = .str z/\y = .int i/\z.length<=sizeLine/\atI z.cps.toList i=some c/\Q (.str ⟨#[c]⟩) H
theorem zQc:IxR X (rIxL X.K):=by
 intro value slice pins s σ H x y v u Q I rx ry h hs
 obtain ⟨p,xs,i,z,rfl,rfl,hq,he,q⟩:=h
 cases rx
 obtain ⟨t,rfl⟩:=ry
 obtain ⟨its,r,pl,hz⟩:=I.list hq
 obtain ⟨j,h1,h2,h3,h4,h5⟩:=zIY he
 obtain ⟨w,ew,rw'⟩:=r.get h2
 have hl:=r.length
 have hn:=zEQ
 have fin:EP X pins σ Q w s:=⟨z,H,I,rw',q⟩
 by_cases h0:0<=i
 ·have hj:i.toNat=j:=by
   rw [seqIndex_of h0 h5] at h1
   exact zVY h1
  exact item_listR pl.isList h0 (by omega) (by rw [hj];simpa using ew) fin hs
 ·have hj:(i+(its.toArray.size:Int)).toNat=j:=by
   rw [seqIndex_neg (by omega) h4] at h1
   rw [zUh,<- hl]
   exact zVY h1
  exact subscriptTail_builtinR (x:=w) pl.isList.typeIs slot_list_getitem.lookup
   (wpAny_getItem_list_neg (Q:=λr s'=>r=w/\EP X pins σ Q r s') pl.isList (by omega) (by rw [zUh]<;>omega) (by omega) (by rw [hj];simpa using ew) ⟨rfl,fin⟩) hs
theorem zS0:IxR X (rIxT X.K):=by
 intro value slice pins s σ H x y v u Q I rx ry h hs
 obtain ⟨p,xs,i,z,rfl,rfl,hq,he,q⟩:=h
 cases rx
 obtain ⟨t,rfl⟩:=ry
 obtain ⟨its,r,pl,hz⟩:=I.tuple hq
 obtain ⟨j,h1,h2,h3,h4,h5⟩:=zIY he
 obtain ⟨w,ew,rw'⟩:=r.get h2
 have hl:=r.length
 have hn:=zEQ
 have fin:EP X pins σ Q w s:=⟨z,H,I,rw',q⟩
 exact subscriptTail_builtinR (x:=w) pl.typeIs slot_tuple_getitem.lookup
  (getItem_tuple (j:=j) (Q:=λr s'=>r=w/\EP X pins σ Q r s') pl (by omega) (by omega) (by rw [zUh,<- hl];exact h1) (by simpa using ew) ⟨rfl,fin⟩) hs
theorem zS1:IxR X rIxS:=by
 intro value slice pins s σ H x y v u Q I rx ry h hs
 obtain ⟨z,i,c,rfl,rfl,hz,he,q⟩:=h
 obtain ⟨t,rfl⟩:=rx
 obtain ⟨t',rfl⟩:=ry
 obtain ⟨j,h1,h2,h3,h4,h5⟩:=zIY he
 have hl:z.cps.toList.length=z.length:=by simp [Str.length]
 rw [hl] at h1 h4 h5
 have hn:=zEQ
 exact tail_any (typeIs_str s z t) slot_str_getitem.lookup (getItem_str (c:=c) (by
  have e1:decide (i < -(2 ^ 63:Int))=false:=zVH (by omega)
  have e2:decide (i>=2 ^ 63)=false:=zVH (by omega)
  rw [e1,e2,zW2]) (by rw [h1];simpa using h2) ⟨.str ⟨#[c]⟩,H,I.tok _,⟨_,rfl⟩,q⟩) hs
noncomputable def rIx (K:Fg):R2:=λx y H Q=>rIxL K x y H Q\/rIxT K x y H Q\/rIxS x y H Q
theorem zLZ:IxR X (rIx X.K):=zQc.or (zS0.or zS1)
theorem zKV (its:List Value) (n j:Nat) (u:Value):Obj.mapSeq (·.setIfInBounds j u) { cls:=.type "list",data:=.seq its.toArray n }={ cls:=.type "list",data:=.seq (its.set j u).toArray n }:=by
 simp [Obj.mapSeq]
theorem Inv.lst {pins:PNt} {σ:St} {H:Hp} {s:Shared} {p:Addr} {xs:List V} (I:Inv X pins σ H s) (h:H p=some (.lst xs)) :
  ∃ (its:List Value) (n:Nat),yP xs its/\s.heap.get? p=some { cls:=.type "list",data:=.seq its.toArray n }/\xs.length<=sizeLine:=by
 obtain ⟨z,its,n,r,e⟩:=I.hok p _ h
 exact ⟨its,n,r,e,z⟩
theorem Inv.lstUpd {pins:PNt} {σ:St} {H:Hp} {s:Shared} {p:Addr} {xs ys:List V} {its its':List Value} {n n':Nat} {f:Obj->Obj} (I:Inv X pins σ H s) (h:H p=some (.lst xs))
  (ho:s.heap.get? p=some { cls:=.type "list",data:=.seq its.toArray n }) (hf:f { cls:=.type "list",data:=.seq its.toArray n }={ cls:=.type "list",data:=.seq its'.toArray n' }) (r:yP ys its') (hz:ys.length<=sizeLine) (t:Nat) :
  Inv X pins σ (upd H p (.lst ys)) { s with heap:=s.heap.update p f,toks:=t }:=by
 have e:(s.heap.update p f).get? p=some { cls:=.type "list",data:=.seq its'.toArray n' }:=by
  rw [zWp f ho (by rw [hf]<;>rfl),hf]
 refine I.write (x:=p) (e:=p) (by rw [h];trivial) (.inl rfl) (λb u hb q=>(zWG _ _ (Ne.symm hb)).trans q) ⟨_,e⟩ ?_
 exact ⟨hz,its',n',r,e⟩
noncomputable def rSetL:V->V->V->Hp->(Hp->Prop)->Prop:=λo i v H Q=>∃ p xs k j,o = .ref p/\i = .int k/\H p=some (.lst xs)/\ixN xs.length k=some j/\Q (upd H p (.lst (xs.set j v)))
theorem zJT:PSet X rSetL:=by
 intro pins s σ H o i v ov iv u Q I ro ri rv h
 obtain ⟨p,xs,k,j,rfl,rfl,hp,hj,q⟩:=h
 cases ro
 obtain ⟨t,rfl⟩:=ri
 obtain ⟨its,n,r,ho,hz⟩:=I.lst hp
 obtain ⟨h1,h2,h3,h4⟩:=zLX hj
 have hl:=r.length
 have hn:=zEQ
 have I':Inv X pins σ (upd H p (.lst (xs.set j v))) { s with heap:=s.heap.update p (Obj.mapSeq (·.setIfInBounds j u)) }:=
  I.lstUpd hp ho (zKV its n j u) (r.set rv j) (by rw [List.length_set];exact hz) s.toks
 by_cases h0:0<=k
 ·have hk:k.toNat=j:=by
   rw [seqIndex_of h0 h4] at h1
   exact zVY h1
  exact PySem.W.ki_setAt ho h0 (by omega) (by rw [zUh,<- hl];exact h4) (by rw [hk];exact ⟨_,I',q⟩)
 ·have hk:(k+(its.toArray.size:Int)).toNat=j:=by
   rw [seqIndex_neg (by omega) h3] at h1
   rw [zUh,<- hl]
   exact zVY h1
  exact PySem.W.ki_setBack ho (by omega) (by rw [zUh,<- hl];exact h3) (by omega) (by rw [hk];exact ⟨_,I',q⟩)
theorem zHL (lo hi:Option Int) (n:Nat):(sliceBounds lo hi none n).1=((HT.sIx n 0 lo:Nat):Int)/\(sliceBounds lo hi none n).2.1=((HT.sIx n n hi:Nat):Int)/\(sliceBounds lo hi none n).2.2=1:=by
 refine ⟨?_,?_,rfl⟩
 ·cases lo with
  |none=>simp [sliceBounds,HT.sIx]
  |some i=>
   simp only [sliceBounds,HT.sIx,Option.getD_none,show (1:Int)>0 by decide,zVU]
   by_cases h:i<0
   ·simp only [h,zVU]<;>omega
   ·simp only [h,zVg]<;>omega
 ·cases hi with
  |none=>simp [sliceBounds,HT.sIx]
  |some i=>
   simp only [sliceBounds,HT.sIx,Option.getD_none,show (1:Int)>0 by decide,zVU]
   by_cases h:i<0
   ·simp only [h,zVU]<;>omega
   ·simp only [h,zVg]<;>omega
theorem zGN (its:List Value) (lo hi:Option Int):slicePick its.toArray lo hi none=((its.drop (HT.sIx its.length 0 lo)).take (HT.sIx its.length its.length hi-HT.sIx its.length 0 lo)).toArray:=by
 obtain ⟨h1,h2,h3⟩:=zHL lo hi its.toArray.size
 unfold slicePick
 rw [h1,h2,h3]
 simp only [sliceRange_one,pick_run,zUh]<;>rfl
noncomputable def rSlL (K:Fg):V->Option Int->Option Int->Hp->VK->Prop:=λx lo hi H Q=>∃ a xs,x = .ref a/\SqL K H a xs/\∀ p,H p=none->Q (.ref p) (upd H p (.lst (zPa xs lo hi)))
theorem zQd:SlR X (rSlL X.K):=by
 intro pins s σ H x v vl vu lo hi sl Q I rx hs pl pu h
 obtain ⟨a,xs,rfl,hx,q⟩:=h
 cases rx
 obtain ⟨its,r,ht,hz⟩:=I.list hx
 have hlen:=r.length
 refine ⟨"list",_,slot_list_getitem.lookup,ht.isList.typeIs,?_⟩
 refine wpAny_getItem_list_slice ht.isList hs pl pu .none (by simp) ?_ (by rw [zUh]<;>omega)
 rw [zGN,<- hlen]
 refine ⟨.ref s.heap.objs.size,_,I.laid (t':=s.toks) (o:=.lst (zPa xs lo hi)) (λb ob q=>zUk _ q) (zUn _) ?_,rfl,q _ (I.hok.fresh (zUn _))⟩
 exact ⟨zVF (zEU xs lo hi) hz,_,0,(r.drop (HT.sIx xs.length 0 lo)).take (HT.sIx xs.length xs.length hi-HT.sIx xs.length 0 lo),zU4 _ rfl⟩
theorem zDx:zAt X (.builtin "len") (λxs H Q=>∃ p ys,xs = [.ref p]/\(SqL X.K H p ys\/SqT X.K H p ys)/\Q (.int ys.length) H):=by
 intro pins s σ H xs us Q I r h
 obtain ⟨p,ys,rfl,hq,q⟩:=h
 obtain ⟨u,rfl,rx⟩:=zDR r
 cases rx
 have hn:=zEQ
 rcases hq with hq|hq
 ·obtain ⟨its,r',pl,hz⟩:=I.list hq
  have hlen:=r'.length
  exact Calls.call_len_list pl.isList (by simp only [zUh]<;>omega) ⟨.int ys.length,H,I.tok _,⟨s.toks+1,by rw [zUh,hlen]⟩,q⟩
 ·obtain ⟨its,r',pl,hz⟩:=I.tuple hq
  have hlen:=r'.length
  exact len_tuple pl (by simp only [zUh]<;>omega) ⟨.int ys.length,H,I.tok _,⟨s.toks+1,by rw [zUh,hlen]⟩,q⟩
theorem zHM:zAt X (.builtin "len") (λxs H Q=>∃ z,xs = [.str z]/\z.length<=sizeLine/\Q (.int z.length) H):=by
 intro pins s σ H xs us Q I r h
 obtain ⟨z,rfl,hz,q⟩:=h
 obtain ⟨u,rfl,t,rfl⟩:=zDR r
 have hn:=zEQ
 exact len_str (by omega) ⟨.int z.length,H,I.tok _,⟨_,rfl⟩,q⟩
theorem zDy:zAt X (.type "list") (λxs H Q=>∃ p ys,xs = [.ref p]/\(SqL X.K H p ys\/SqT X.K H p ys)/\∀ l,H l=none->Q (.ref l) (upd H l (.lst ys))):=by
 intro pins s σ H xs us Q I r h
 obtain ⟨p,ys,rfl,hq,q⟩:=h
 obtain ⟨u,rfl,rx⟩:=zDR r
 cases rx
 have fin:∀ (its:List Value),yP ys its->ys.length<=sizeLine->∀ (h':Heap) (c':Nat),(∀ b o',s.heap.get? b=some o'->h'.get? b=some o') ->
   h'.get? s.heap.objs.size=some { cls:=.type "list",dict:=none,data:=.seq its.toArray c',slots:=#[] }->EP X pins σ Q (.ref s.heap.objs.size) { s with heap:=h' }:=λits r' hz h' c' kp e=>
  ⟨.ref s.heap.objs.size,_,I.laid (t':=s.toks) kp (zUn _) (show zAC X.prog X.w _ h' _ (.lst ys) from ⟨hz,its,c',r',e⟩),rfl,q _ (I.hok.fresh (zUn _))⟩
 rcases hq with hq|hq
 ·obtain ⟨its,r',pl,hz⟩:=I.list hq
  have hlen:=r'.length
  obtain ⟨o,ho,hc,n,hd⟩:=pl.isList
  exact call_list_seq p (.inl rfl) ho hc hd (λh' c' kp e=>fin its r' hz h' c' kp e) (by simp only [zUh]<;>omega)
 ·obtain ⟨its,r',pl,hz⟩:=I.tuple hq
  have hlen:=r'.length
  obtain ⟨o,ho,hc,n,hd⟩:=pl
  exact call_list_seq p (.inr rfl) ho hc hd (λh' c' kp e=>fin its r' hz h' c' kp e) (by simp only [zUh]<;>omega)
theorem zCm:zAt X (.type "tuple") (λxs H Q=>∃ p ys,xs = [.ref p]/\((SqL X.K H p ys/\∀ l,H l=none->Q (.ref l) (upd H l (.tup ys)))\/(SqT X.K H p ys/\Q (.ref p) H))):=by
 intro pins s σ H xs us Q I r h
 obtain ⟨p,ys,rfl,h⟩:=h
 obtain ⟨u,rfl,rx⟩:=zDR r
 cases rx
 rcases h with ⟨hq,q⟩|⟨hq,q⟩
 ·obtain ⟨its,r',pl,hz⟩:=I.list hq
  have hlen:=r'.length
  refine call_tuple_list pl.isList (λh' kp=>?_) (by simp only [zUh]<;>omega)
  have I1:Inv X pins σ H { s with heap:=h' }:=I.kept (t':=s.toks) kp
  have I2:Inv X pins σ (upd H h'.objs.size (.tup ys)) { s with heap:=h'.push { cls:=.type "tuple",data:=.seq its.toArray } }:=
   I1.laid (t':=s.toks) (λb o e=>zUk _ e) (zUn _) (show zAC X.prog X.w _ _ _ (.tup ys) from ⟨hz,its,r',zA6.new _ _⟩)
  exact ⟨.ref h'.objs.size,_,I2,rfl,q _ (I1.hok.fresh (zUn _))⟩
 ·obtain ⟨its,r',pl,hz⟩:=I.tuple hq
  exact call_tuple_same pl ⟨.ref p,H,I,rfl,q⟩
def tyV (K:Fg) (T:String) (x:V) (H:Hp):Prop:=match x with
 |.str _=>T = "str"
 |.int _=>T = "int"
 |.ref p=>(T = "list"/\∃ xs,SqL K H p xs)\/(T = "tuple"/\∃ o,K.lookup p=some o/\o.cls = .type "tuple"/\o.dict=none) \/
   (T = "dict"/\((∃ kvs,H p=some (.dK kvs))\/∃ kvs,H p=some (.dT kvs)))\/(T = "set"/\∃ S n,H p=some (.set S n))
 |_=>False
theorem zPb {pins:PNt} {σ:St} {H:Hp} {s:Shared} {T:String} {x:V} {v:Value} (I:Inv X pins σ H s) (r:yr x v) (ty:tyV X.K T x H) :
  s.TypeIs v T/\∀ a,v = .ref a->∃ ob,s.heap.get? a=some ob/\ob.dict=none:=by
 cases x with
 |str z=>
  obtain ⟨t,rfl⟩:=r
  cases (show T = "str" from ty)
  exact ⟨typeIs_str s z t,λ_ e=>nomatch e⟩
 |int i=>
  obtain ⟨t,rfl⟩:=r
  cases (show T = "int" from ty)
  exact ⟨typeIs_int s i t,λ_ e=>nomatch e⟩
 |ref p=>
  cases r
  rcases ty with ⟨rfl,xs,hq⟩|⟨rfl,o,hk,hc,hd⟩|⟨rfl,hk⟩|⟨rfl,S,n,hk⟩
  ·obtain ⟨its,_,pl,_⟩:=I.list hq
   refine ⟨pl.isList.typeIs,λa e=>?_⟩
   cases e
   obtain ⟨o,n,e,c,hd,_⟩:=pl
   exact ⟨o,e,hd⟩
  ·refine ⟨⟨o,I.kIn p o hk,hc⟩,λa e=>?_⟩
   cases e
   exact ⟨o,I.kIn _ o hk,hd⟩
  ·have z:∃ o,s.heap.get? p=some o/\o.ExactDict:=by
    rcases hk with ⟨kvs,hk⟩|⟨kvs,hk⟩
    ·obtain ⟨_,_,_,_,o,_,_,e,ex,_⟩:=I.hok p _ hk
     exact ⟨o,e,ex⟩
    ·obtain ⟨_,_,_,_,o,_,_,e,ex,_⟩:=I.hok p _ hk
     exact ⟨o,e,ex⟩
   obtain ⟨o,e,ex⟩:=z
   refine ⟨⟨o,e,ex.1⟩,λa e2=>?_⟩
   cases e2
   exact ⟨o,e,ex.2.1⟩
  ·obtain ⟨o,_,_,_,e,ex,_⟩:=I.hok p _ hk
   refine ⟨⟨o,e,ex.1⟩,λa e2=>?_⟩
   cases e2
   exact ⟨o,e,ex.2.1⟩
 |_=>exact False.elim ty
noncomputable def tBM0 (K:Fg) (T:String) (r:V->List V->Hp->VK->Prop) (to:TE):TE:=λσ H Q=>to σ H λx H1=>tyV K T x H1/\r x [] H1 Q
noncomputable def tBM (K:Fg) (T:String) (r:V->List V->Hp->VK->Prop) (to:TE) (t:TA):TE:=λσ H Q=>to σ H λx H1=>tyV K T x H1/\t σ H1 λxs H2=>r x xs H2 Q
variable {o e:Expr} {es:List Expr} {to:TE} {t:TA} {name:Str} {apos cpos:Pos} {T id:String} {r:V->List V->Hp->VK->Prop}
theorem zS2 (pa:PlainAttrs T) (slot:Slot T name id) (hty:typeOf (.builtin id)=pure (.type "method_descriptor")) (hm:MtR X id r) (ho:PE X o to)
  (hbase:attributeBase o name X.env (eval o X.env)=eval o X.env:=by rfl) (hline:(apos.endLine == cpos.line)=true:=by rfl):PE X (.Call (.Attribute o name apos) [] [] cpos) (tBM0 X.K T r to):=by
 intro pins s σ H Q I h
 refine wpAny_Call_method0_late hbase hline (thn (ho pins s σ H _ I h) λv s1 zz=>?_)
 obtain ⟨x,H1,I1,r1,ty,q1⟩:=zz
 obtain ⟨h1,h2⟩:=zPb I1 r1 ty
 exact ⟨T,id,pa,slot,hty,h1,h2,zWf rfl (PySem.evalArgs_none (hm pins s1 σ H1 x [] v [] Q I1 r1 .nil q1))⟩
theorem zGO (pa:PlainAttrs T) (slot:Slot T name id) (hty:typeOf (.builtin id)=pure (.type "method_descriptor")) (hm:MtR X id r) (ho:PE X o to) (ha:PA X (e::es) t)
  (hbase:attributeBase o name X.env (eval o X.env)=eval o X.env:=by rfl)
  (hfew:((backTo cpos (starEach (e::es) X.env)).all (λx=>!x.1) && (backToKw cpos (keywordEach [] X.env)).all (λx=>x.1.isSome)
   && decide ((e::es).length+([]:List Keyword).length+(if ([]:List Keyword).isEmpty then 0 else 1)<30))=true:=by rfl)
  (hline:(apos.endLine == cpos.line)=true:=by rfl) (hs:starEach (e::es) X.env=(false,eval e X.env)::starEach es X.env:=by rfl) (hplain:(backTo cpos (starEach es X.env)).any (·.1)=false:=by rfl) :
  PE X (.Call (.Attribute o name apos) (e::es) [] cpos) (tBM X.K T r to t):=by
 intro pins s σ H Q I h
 refine wpAny_Call_method_late hbase hfew hline rfl (thn (ho pins s σ H _ I h) λv s1 zz=>?_)
 obtain ⟨x,H1,I1,r1,ty,q1⟩:=zz
 obtain ⟨h1,h2⟩:=zPb I1 r1 ty
 refine ⟨T,id,pa,slot,hty,h1,h2,?_⟩
 have hA:=ha cpos pins s1 σ H1 _ I1 q1
 rw [hs] at hA ⊢
 refine zWf (by show (false || (backTo cpos (starEach es X.env)).any (·.1))=false;rw [hplain]<;>rfl) (Calls.evalArgs_plain ?_)
 exact thn hA λus s2 ⟨vs,H2,I2,r2,q2⟩=>hm pins s2 σ H2 x vs v us Q I2 r1 r2 q2
/- xs.append(e),list.index on a module's tuple .. are MtR facts of 06m -/
end
end L2
namespace L2
open PySem PySem.Spec PyProof.Rows
def MtM (X:Cx) (id:String) (r:V->List V->Hp->VK->Prop):Prop:=
 ∀ (pins:PNt) (s:Shared) (σ:St) (H:Hp) (x:V) (xs:List V) (v:Value) (us:List Value) (Q:VK),Inv X pins σ H s->yr x v->yP xs us->r x xs H Q ->
  wpAny (model X.prog X.w) X.A (call (.builtin id) (v::us)) (EP X pins σ Q) X.xe s
theorem yP.one:∀ {x:V} {us:List Value},yP [x] us->∃ u,us = [u]/\yr x u
 |_,_,.cons r .nil=>⟨_,rfl,r⟩
theorem yP.two:∀ {x y:V} {us:List Value},yP [x,y] us->∃ u v,us = [u,v]/\yr x u/\yr y v
 |_,_,_,.cons r (.cons q .nil)=>⟨_,_,rfl,r,q⟩
theorem yP.zero:∀ {us:List Value},yP [] us->us = []
 |_,.nil=>rfl
theorem yP.dropLast {xs:List V} {us:List Value} (h:yP xs us):yP xs.dropLast us.dropLast:=by
 induction h with
 |nil=>exact .nil
 |cons r t ih=>
  cases t with
  |nil=>exact .nil
  |cons q t'=>exact .cons r ih
theorem yP.eraseIdx:∀ {xs:List V} {us:List Value} (i:Nat),yP xs us->yP (xs.eraseIdx i) (us.eraseIdx i)
 |_,_,_,.nil=>.nil
 |_,_,0,.cons _ t=>t
 |_,_,i+1,.cons r t=>.cons r (yP.eraseIdx i t)
theorem zKW {α:Type} (l:List α):l.eraseIdx (l.length-1)=l.dropLast:=by
 induction l with
 |nil=>rfl
 |cons a r ih=>
  cases r with
  |nil=>rfl
  |cons b r=>
   have e:(a::b::r).length-1=((b::r).length-1)+1:=by
    have h1:(a::b::r).length=r.length+2:=rfl
    have h2:(b::r).length=r.length+1:=rfl
    omega
   rw [e,List.eraseIdx_cons_succ,ih]
   all_goals rfl
theorem zHN {α:Type}:∀ (l:List α) (i:Nat),(l.eraseIdx i).length<=l.length
 | [],_=>zUn _
 |_::_,0=>zWk _
 |_::r,i+1=>Nat.succ_le_succ (zHN r i)
section
variable {X:Cx} {pins:PNt} {σ:St} {H:Hp} {s:Shared} {l b:Addr} {xs ys zs:List V}
theorem Inv.lset {its its':List Value} {n:Nat} {f:Array Value->Array Value} {t':Nat} (I:Inv X pins σ H s) (hH:H l=some (.lst xs))
  (e:s.heap.get? l=some { cls:=.type "list",data:=.seq its.toArray n }) (hf:f its.toArray=its'.toArray) (hv:yP ys its') (hz:ys.length<=sizeLine) :
  Inv X pins σ (upd H l (.lst ys)) { s with heap:=s.heap.update l (Obj.mapSeq f),toks:=t' }:=by
 have q:=PySem.IsL.update e f
 rw [hf] at q
 refine I.write (x:=l) (e:=l) (by rw [hH];exact trivial) (.inl rfl) (λb' u hb hu=>(zWG s.heap (Obj.mapSeq f) (Ne.symm hb)).trans hu) ⟨_,q⟩ ?_
 exact ⟨hz,its',_,hv,q⟩
theorem Inv.lnew {its:List Value} {t':Nat} (I:Inv X pins σ H s) (hv:yP ys its) (hz:ys.length<=sizeLine) :
  Inv X pins σ (upd H s.heap.objs.size (.lst ys)) { s with heap:=s.heap.push { cls:=.type "list",data:=.seq its.toArray },toks:=t' }:=
 I.laid (λ_ _ q=>zUk _ q) (zUn _) ⟨hz,its,0,hv,zU4 _ rfl⟩
theorem Inv.fresh (I:Inv X pins σ H s):H s.heap.objs.size=none:=I.hok.fresh (zUn _)
theorem Inv.lstM (I:Inv X pins σ H s) (hH:H l=some (.lst xs)):xs.length<=sizeLine/\∃ (its:List Value) (n:Nat),yP xs its/\xs.length=its.length/\s.heap.get? l=some { cls:=.type "list",data:=.seq its.toArray n }:=by
 obtain ⟨z,its,n,r,e⟩:=I.hok l _ hH
 exact ⟨z,its,n,r,r.length,e⟩
theorem zNs {n:Nat} (h:n<=sizeLine):Builtin.List.listTooLong n=false:=by
 unfold Builtin.List.listTooLong
 exact zVH (by omega)
end
section
variable {X:Cx}
noncomputable def zQe:V->List V->Hp->VK->Prop:=λx vs H Q=>∃ l xs y,x = .ref l/\vs = [y]/\H l=some (.lst xs)/\xs.length<sizeLine/\Q .non (upd H l (.lst (xs ++ [y])))
theorem zBs:MtM X "list.append" zQe:=by
 intro pins s σ H x vs v us Q I rx rv h
 obtain ⟨l,xs,y,rfl,rfl,hH,hz,q⟩:=h
 cases rx
 obtain ⟨u,rfl,ru⟩:=rv.one
 obtain ⟨z,its,n,r,hl,e⟩:=I.lstM hH
 refine call_meets F.slot_list_append ⟨_,e,rfl⟩ F.entry_list_append (F.args_list_append_2 _ _) (PySem.list_append l its.toArray n u (by rw [zUh];omega)) ⟨e,?_⟩
 refine ⟨.non,_,I.lset (its':=its ++ [u]) hH e (by simp) (r.append (.cons ru .nil)) ?_,rfl,q⟩
 rw [zUr,zVE]
 omega
noncomputable def zQf:V->List V->Hp->VK->Prop:=λx vs H Q=>∃ l b xs zs,x = .ref l/\vs = [.ref b]/\H l=some (.lst xs)/\H b=some (.lst zs)/\xs.length+zs.length<=sizeLine/\Q .non (upd H l (.lst (xs++zs)))
theorem zLa:MtM X "list.extend" zQf:=by
 intro pins s σ H x vs v us Q I rx rv h
 obtain ⟨l,b,xs,zs,rfl,rfl,hH,hB,hz,q⟩:=h
 cases rx
 obtain ⟨u,rfl,ru⟩:=rv.one
 cases ru
 obtain ⟨z,its,n,r,hl,e⟩:=I.lstM hH
 obtain ⟨z2,its2,n2,r2,hl2,e2⟩:=I.lstM hB
 have hsz:its.toArray.size+its2.toArray.size<=sizeLine:=by rw [zUh,zUh];omega
 have hlong:¬ (!its.toArray.isEmpty && Builtin.List.listTooLong (its.toArray.size+its2.toArray.size))=true:=by
  rw [zNs hsz,Bool.and_false]
  exact zU7
 refine call_meets F.slot_list_extend ⟨_,e,rfl⟩ F.entry_list_extend (F.args_list_extend_2 _ _)
  (AutoSeq1.list_extend_list_list_0 l its.toArray n b its2.toArray n2 hlong (by rw [zUh];omega) (by omega)) ⟨e,e2,?_⟩
 refine ⟨.non,_,I.lset (its':=its++its2) hH e (by simp) (r.append r2) ?_,rfl,q⟩
 rw [zUr]
 omega
noncomputable def rPop:V->List V->Hp->VK->Prop:=λx vs H Q=>∃ l xs y,x = .ref l/\vs = []/\H l=some (.lst xs)/\xs[xs.length-1]?=some y/\Q y (upd H l (.lst xs.dropLast))
theorem zS3:MtM X "list.pop" rPop:=by
 intro pins s σ H x vs v us Q I rx rv h
 obtain ⟨l,xs,y,rfl,rfl,hH,hy,q⟩:=h
 cases rx
 have hus:=rv.zero
 subst hus
 obtain ⟨z,its,n,r,hl,e⟩:=I.lstM hH
 obtain ⟨u,hu,ru⟩:=r.get hy
 have hy':its.toArray[its.toArray.size-1]?=some u:=by
  show its.toArray[its.length-1]?=some u
  rw [<- zWo,<- hl]
  exact hu
 refine call_meets F.slot_list_pop ⟨_,e,rfl⟩ F.entry_list_pop (F.args_list_pop_1 _) (MeetsSeq.list_pop_last l its.toArray n u hy' (by rw [zUh];omega)) ⟨e,?_⟩
 refine ⟨y,_,I.lset (its':=its.dropLast) hH e ?_ r.dropLast ?_,ru,q⟩
 ·show its.toArray.eraseIdxIfInBounds (its.toArray.size-1)=its.dropLast.toArray
  rw [zUh,List.eraseIdxIfInBounds_toArray,zKW]
 ·rw [zWR]
  omega
noncomputable def zS4:V->List V->Hp->VK->Prop:=λx vs H Q=>∃ l xs i k y,x = .ref l/\vs = [.int i]/\H l=some (.lst xs)/\-(2 ^ 63)<=i/\i<2 ^ 63/\seqIndex? i xs.length=some k/\xs[k]?=some y/\Q y (upd H l (.lst (xs.eraseIdx k)))
theorem zNt:MtM X "list.pop" zS4:=by
 intro pins s σ H x vs v us Q I rx rv h
 obtain ⟨l,xs,i,k,y,rfl,rfl,hH,h1,h2,hk,hy,q⟩:=h
 cases rx
 obtain ⟨u,rfl,ru⟩:=rv.one
 obtain ⟨t,rfl⟩:=ru
 obtain ⟨z,its,n,r,hl,e⟩:=I.lstM hH
 obtain ⟨w,hw,rw'⟩:=r.get hy
 refine call_meets F.slot_list_pop ⟨_,e,rfl⟩ F.entry_list_pop (F.args_list_pop_2 _ _)
  (MeetsSeq.list_pop_at l its.toArray n i t k w (fitsIndex_both h1 h2) (by rw [zUh,<- hl];exact hk) (by rw [<- zWo];exact hw) (by rw [zUh];omega)) ⟨e,?_⟩
 refine ⟨y,_,I.lset (its':=its.eraseIdx k) hH e ?_ (r.eraseIdx k) ?_,rw',q⟩
 ·show its.toArray.eraseIdxIfInBounds k=(its.eraseIdx k).toArray
  rw [List.eraseIdxIfInBounds_toArray]
 ·have:=zHN xs k
  omega
end
section
variable {prog:Program} {w:World} {A:Around} {E:VSt} {s:Shared}
end
section
variable {X:Cx}
end
end L2
namespace L2
open PySem PySem.Spec PyProof.Rows
section
variable {κ:Type} [DecidableEq κ]
noncomputable def zAv (kvs:List (κ×V)) (k:κ):Option V:=(kvs.find? λkv=>decide (kv.1=k)).map (·.2)
noncomputable def zCN (kvs:List (κ×V)) (k:κ) (v:V):List (κ×V):=
 if (kvs.any λkv=>decide (kv.1=k))=true then kvs.map (λkv=>if kv.1=k then (kv.1,v) else kv) else kvs ++ [(k,v)]
theorem zEA {p:κ×V} {r:List (κ×V)} {k:κ} (e:p.1=k):zAv (p::r) k=some p.2:=by simp [zAv,zU9,e]
theorem zCn {p:κ×V} {r:List (κ×V)} {k:κ} (e:¬ p.1=k):zAv (p::r) k=zAv r k:=by simp [zAv,zU9,e]
theorem zGP (k:κ):∀ kvs:List (κ×V),(kvs.any λkv=>decide (kv.1=k))=(zAv kvs k).isSome
 | []=>rfl
 |p::r=>by
  rw [zV3]
  by_cases e:p.1=k
  ·simp only [zEA e,zVk e,Bool.true_or,Option.isSome_some]
  ·rw [zCn e,zVH e,Bool.false_or];exact zGP k r
theorem zAP (kvs:List (κ×V)) (k:κ) (v:V):(zCN kvs k v).length<=kvs.length+1:=by
 unfold zCN
 split
 ·rw [zUi];omega
 ·rw [zUr,zUa,zUq];omega
theorem zJU {kvs:List (κ×V)} {k:κ} (v:V) (h:zAv kvs k=none):zCN kvs k v=kvs ++ [(k,v)]:=by
 unfold zCN
 rw [zGP,h]
 exact zVD (by decide)
theorem zFT.isSome_eq {o:Option V} {u:Option Value} (r:zFT o u):o.isSome=u.isSome:=by
 cases o with
 |none=>cases u with
  |none=>rfl
  |some _=>exact (show False from r).elim
 |some _=>cases u with
  |none=>exact (show False from r).elim
  |some _=>rfl
theorem zFT.getD {o:Option V} {u:Option Value} {d:V} {d':Value} (r:zFT o u) (rd:yr d d'):yr (o.getD d) (u.getD d'):=by
 cases o with
 |none=>cases u with
  |none=>exact rd
  |some _=>exact (show False from r).elim
 |some _=>cases u with
  |none=>exact (show False from r).elim
  |some _=>exact r
theorem KV.val {kvs:List (κ×V)} {vs:List (κ×Value)} (r:KV kvs vs) (k:κ):zFT (zAv kvs k) (valueAt vs k):=by
 unfold KV at r
 induction r with
 |nil=>exact True.intro
 |@cons p q ps qs h t ih=>
  obtain ⟨h1,h2⟩:=h
  by_cases e:p.1=k
  ·have e':q.1=k:=h1.symm.trans e
   have b:valueAt (q::qs) k=some q.2:=by simp [valueAt,zU9,e']
   rw [zEA e,b];exact h2
  ·have e':¬ q.1=k:=λz=>e (h1.trans z)
   have b:valueAt (q::qs) k=valueAt qs k:=by simp [valueAt,zU9,e']
   rw [zCn e,b];exact ih
theorem KV.any {kvs:List (κ×V)} {vs:List (κ×Value)} (r:KV kvs vs) (k:κ):(kvs.any λkv=>decide (kv.1=k))=vs.any λkv=>decide (kv.1=k):=by
 unfold KV at r
 induction r with
 |nil=>rfl
 |cons h t ih=>rw [zV3,zV3,ih,h.1]
theorem KV.repl {kvs:List (κ×V)} {vs:List (κ×Value)} (r:KV kvs vs) (k:κ) {y:V} {u:Value} (ry:yr y u) :
  KV (kvs.map λkv=>if kv.1=k then (kv.1,y) else kv) (vs.map λkv=>if kv.1=k then (kv.1,u) else kv):=by
 unfold KV at r ⊢
 induction r with
 |nil=>exact .nil
 |@cons p q ps qs h t ih=>
  rw [zUc,zUc]
  refine .cons ?_ ih
  obtain ⟨h1,h2⟩:=h
  by_cases e:p.1=k
  ·rw [zUp e,zUp (h1.symm.trans e)];exact ⟨h1,ry⟩
  ·rw [zVD e,zVD (λz=>e (h1.trans z))];exact ⟨h1,h2⟩
theorem KV.put {kvs:List (κ×V)} {vs:List (κ×Value)} (r:KV kvs vs) (k:κ) {y:V} {u:Value} (ry:yr y u):KV (zCN kvs k y) (stored vs k u):=by
 unfold zCN stored
 rw [r.any k]
 by_cases e:(vs.any λkv=>decide (kv.1=k))=true
 ·rw [zUp e,zUp e];exact r.repl k ry
 ·rw [zVD e,zVD e];exact Paired.snoc r ⟨rfl,ry⟩
theorem KV.length {kvs:List (κ×V)} {vs:List (κ×Value)} (r:KV kvs vs):kvs.length=vs.length:=zWO r
end
theorem zGQ {P:Program} {w:World} {k:Key} {u:Value} (r:yr (kV k) u):(zy P w).is k u=true:=by
 cases k with
 |inl i=>obtain ⟨t,e⟩:=(show ∃ t,u=Value.int i t from r);subst e;exact zIT P w i t
 |inr x=>obtain ⟨t,e⟩:=(show ∃ t,u=Value.str x t from r);subst e;exact zIU P w x t
theorem zS5 {a b:Key} (e:kV a=kV b):a=b:=by
 cases a with
 |inl i=>cases b with
  |inl j=>have e':V.int i=V.int j:=e;injection e' with e';rw [e']
  |inr y=>exact nomatch (show V.int i=V.str y from e)
 |inr x=>cases b with
  |inl j=>exact nomatch (show V.str x=V.int j from e)
  |inr y=>have e':V.str x=V.str y:=e;injection e' with e';rw [e']
theorem zLb:∀ {a b:List Key},a.map kV=b.map kV->a=b
 | [],[],_=>rfl
 | [],_::_,e=>by simp at e
 |_::_,[],e=>by simp at e
 |x::xs,y::ys,e=>by
  rw [zUc,zUc] at e
  injection e with e1 e2
  rw [zS5 e1,zLb e2]
theorem zHO {P:Program} {w:World}:∀ {ks:List Key} {us:List Value},yP (ks.map kV) us->ItemsAre (zy P w) ks us
 | [],_,r=>by rw [zVq] at r;cases r;exact .nil
 |k::ks,_,r=>by
  rw [zUc] at r
  cases r with
  |cons h t=>exact .cons (zGQ h) (zHO t)
abbrev KT (H:Hp):List (List Key×V)->List (List Key×Addr×Value)->Prop:=Paired λp q=>p.1=q.1/\H q.2.1=some (.tup (p.1.map kV))/\yr p.2 q.2.2
theorem KT.val {H:Hp} {kvs:List (List Key×V)} {xs:List (List Key×Addr×Value)} (r:KT H kvs xs) (k:List Key):zFT (zAv kvs k) ((atKey xs k).map (·.2)):=by
 induction r with
 |nil=>exact True.intro
 |@cons p q ps qs h t ih=>
  obtain ⟨h1,_,h2⟩:=h
  by_cases e:p.1=k
  ·have e':q.1=k:=h1.symm.trans e
   have b:atKey (q::qs) k=some q.2:=by simp [atKey,zU9,e']
   rw [zEA e,b];exact h2
  ·have e':¬ q.1=k:=λz=>e (h1.trans z)
   have b:atKey (q::qs) k=atKey qs k:=by simp [atKey,zU9,e']
   rw [zCn e,b];exact ih
theorem KT.repl {H:Hp} {kvs:List (List Key×V)} {xs:List (List Key×Addr×Value)} (r:KT H kvs xs) (k:List Key) {y:V} {u:Value} (ry:yr y u) :
  KT H (kvs.map λkv=>if kv.1=k then (kv.1,y) else kv) (xs.map (putAt k u)):=by
 induction r with
 |nil=>exact .nil
 |@cons p q ps qs h t ih=>
  rw [zUc,zUc]
  refine .cons ?_ ih
  obtain ⟨h1,h2,h3⟩:=h
  unfold putAt
  by_cases e:p.1=k
  ·rw [zUp e,zUp (h1.symm.trans e)];exact ⟨h1,h2,ry⟩
  ·rw [zVD e,zVD (λz=>e (h1.trans z))];exact ⟨h1,h2,h3⟩
theorem KT.put {H:Hp} {kvs:List (List Key×V)} {xs:List (List Key×Addr×Value)} (r:KT H kvs xs) (k:List Key) {b:Addr} {y:V} {u:Value} (hb:H b=some (.tup (k.map kV))) (ry:yr y u) :
  KT H (zCN kvs k y) (storedH xs k b u):=by
 have e:(kvs.any λkv=>decide (kv.1=k))=(atKey xs k).isSome:=by
  rw [zGP,(r.val k).isSome_eq,Option.isSome_map]
 unfold zCN storedH
 rw [e]
 by_cases q:(atKey xs k).isSome=true
 ·rw [zUp q,zUp q];exact r.repl k ry
 ·rw [zVD q,zVD q];exact Paired.snoc r ⟨rfl,hb,ry⟩
theorem KT.keeps {H H':Hp} {kvs:List (List Key×V)} {xs:List (List Key×Addr×Value)} (r:KT H kvs xs) (ht:∀ b ys,H b=some (.tup ys)->H' b=some (.tup ys)):KT H' kvs xs:=
 Paired.mapP r λ_ _ z=>⟨z.1,ht _ _ z.2.1,z.2.2⟩
section
variable {P:Program} {w:World} {H:Hp} {h:Heap} {a:Addr}
theorem zS6 {u:HO} (ok:HOk P w H h) (e:Rd H a u):zAC P w H h a u:=e.ok ok
theorem zHP {kvs:List (Key×V)} (ok:HOk P w H h) (e:Rd H a (.dK kvs)):kvs.length<=sizeLine/\(a == sysModules)=false/\∃ vs,KV kvs vs/\h.DictOf (zy P w) a vs:=
 show zAC P w H h a (.dK kvs) from zS6 ok e
theorem zQg {kvs:List (Key×V)} (ok:HOk P w H h) (e:H a=some (.dK kvs)):kvs.length<=sizeLine/\(a == sysModules)=false/\∃ vs,KV kvs vs/\h.DictOf (zy P w) a vs:=zHP ok (.inl e)
theorem zCo {ks:List Key} (ok:HOk P w H h) (e:H a=some (.tup (ks.map kV))):(tupleKind (zy P w)).is h ks a:=by
 obtain ⟨_,its,r,o,h1,h2,n,h3,_⟩:=(show zAC P w H h a (.tup (ks.map kV)) from ok a _ e)
 exact ⟨o,its.toArray,n,h1,h2,h3,by simpa using zHO r⟩
theorem zHQ {kvs:List (List Key×V)} (ok:HOk P w H h) (e:Rd H a (.dT kvs)):kvs.length<=sizeLine/\(a == sysModules)=false /\
  ∃ xs,KT H kvs xs/\h.DictOfH (tupleKind (zy P w)) a xs:=by
 obtain ⟨z,y,xs,r,o,es,ep,h1,h2,h3,h4,h5⟩:=(show zAC P w H h a (.dT kvs) from zS6 ok e)
 refine ⟨z,y,xs,r,o,es,ep,h1,h2,h3,h4,λx hx=>?_,h5⟩
 have all:∀ {l:List (List Key×V)} {m:List (List Key×Addr×Value)},KT H l m->∀ x∈m,(tupleKind (zy P w)).is h x.1 x.2.1:=by
  intro l m q
  induction q with
  |nil=>intro x hx;exact nomatch hx
  |@cons p q ps qs hq t ih=>
   intro x hx
   rcases zUg.mp hx with e|hx
   ·subst e
    exact zCo ok (by rw [<- hq.1];exact hq.2.1)
   ·exact ih x hx
 exact all r x hx
theorem zQh {kvs:List (List Key×V)} (ok:HOk P w H h) (e:H a=some (.dT kvs)):kvs.length<=sizeLine/\(a == sysModules)=false /\
  ∃ xs,KT H kvs xs/\h.DictOfH (tupleKind (zy P w)) a xs:=zHQ ok (.inl e)
end
def zDH (H:Hp) (a:Addr) (y:V) (r:Option V):Prop:=
 (∃ kvs k,Rd H a (.dK kvs)/\y=kV k/\r=zAv kvs k)\/∃ kvs k b,Rd H a (.dT kvs)/\y = .ref b/\H b=some (.tup (k.map kV))/\r=zAv kvs k
def zLc (H:Hp) (a:Addr) (y v:V) (H':Hp):Prop:=
 (∃ kvs k,H a=some (.dK kvs)/\y=kV k/\kvs.length<sizeLine/\H'=upd H a (.dK (zCN kvs k v))) \/
 ∃ kvs k b,H a=some (.dT kvs)/\y = .ref b/\H b=some (.tup (k.map kV))/\kvs.length<sizeLine/\H'=upd H a (.dT (zCN kvs k v))
theorem zDH.k {H:Hp} {a:Addr} {kvs:List (Key×V)} {k:Key} (e:H a=some (.dK kvs)):zDH H a (kV k) (zAv kvs k):=.inl ⟨kvs,k,.inl e,rfl,rfl⟩
theorem zDH.t {H:Hp} {a b:Addr} {kvs:List (List Key×V)} {k:List Key} (e:H a=some (.dT kvs)) (eb:H b=some (.tup (k.map kV))):zDH H a (.ref b) (zAv kvs k):=.inr ⟨kvs,k,b,.inl e,rfl,eb,rfl⟩
theorem zLc.k {H:Hp} {a:Addr} {kvs:List (Key×V)} {k:Key} {v:V} (e:H a=some (.dK kvs)) (hl:kvs.length<sizeLine):zLc H a (kV k) v (upd H a (.dK (zCN kvs k v))):=.inl ⟨kvs,k,e,rfl,hl,rfl⟩
theorem zLc.t {H:Hp} {a b:Addr} {kvs:List (List Key×V)} {k:List Key} {v:V} (e:H a=some (.dT kvs)) (eb:H b=some (.tup (k.map kV))) (hl:kvs.length<sizeLine) :
  zLc H a (.ref b) v (upd H a (.dT (zCN kvs k v))):=.inr ⟨kvs,k,b,e,rfl,eb,hl,rfl⟩
section
variable {X:Cx} {pins:PNt} {σ:St} {H:Hp} {s:Shared} {a:Addr} {y v:V} {u r:Value} {o:Option V} {A:Around} {E:VSt}
theorem Inv.big (I:Inv X pins σ H s):sysModules<s.heap.objs.size:=by
 have h:mainGlobals<s.heap.objs.size:=(I.mod.glob.keeps I.bk).lt
 exact Nat.lt_trans (by decide) h
theorem zLd {Q:VSt} (hu:A.units+1<cLine) (I:Inv X pins σ H s) (g:zDH H a y (some v)) (ry:yr y u) (h:∀ w' s',Inv X pins σ H s'->yr v w'->Q w' s') :
  wpAny (model X.prog X.w) A (getItem (.ref a) u) Q E s:=by
 rcases g with ⟨kvs,k,e,ey,l⟩|⟨kvs,k,b,e,ey,eb,l⟩
 ·subst ey
  obtain ⟨z,hd,vs,rel,dd⟩:=zHP I.hok e
  obtain ⟨w',hw,rw'⟩:=zFT.some_of (v:=v) (o:=valueAt vs k) (by rw [l];exact rel.val k)
  exact wpAny_getItem_of (zGQ ry) dd.mapOf hw (h w' _ (I.tok _) rw')
 ·subst ey
  cases (show u=Value.ref b from ry)
  obtain ⟨z,hd,xs,rel,dd⟩:=zHQ I.hok e
  obtain ⟨w',hw,rw'⟩:=zFT.some_of (v:=v) (o:=(atKey xs k).map (·.2)) (by rw [l];exact rel.val k)
  obtain ⟨p,hp,hp2⟩:=zUZ.mp hw
  refine wpAny_getItem_heap (zVu hu) (zCo I.hok eb) dd hp ?_
  rw [hp2]
  exact h w' _ (I.tok _) rw'
theorem d_in {Q:VSt} (hu:A.units+1<cLine) (I:Inv X pins σ H s) (g:zDH H a y o) (ry:yr y u) (h:∀ s',Inv X pins σ H s'->Q (.bool o.isSome) s') :
  wpAny (model X.prog X.w) A (compareOp .In u (.ref a)) Q E s:=by
 rcases g with ⟨kvs,k,e,ey,l⟩|⟨kvs,k,b,e,ey,eb,l⟩
 ·subst ey
  obtain ⟨z,hd,vs,rel,dd⟩:=zHP I.hok e
  refine wpAny_in_of (zGQ ry) hd dd.mapOf ?_
  rw [<- (rel.val k).isSome_eq,<- l]
  exact h _ (I.tok _)
 ·subst ey
  cases (show u=Value.ref b from ry)
  obtain ⟨z,hd,xs,rel,dd⟩:=zHQ I.hok e
  refine wpAny_in_heap (zVu hu) (zCo I.hok eb) hd dd ?_
  have q:=(rel.val k).isSome_eq
  rw [Option.isSome_map] at q
  rw [<- q,<- l]
  exact h _ (I.tok _)
theorem zQi {Q:VSt} (hu:A.units+1<cLine) (I:Inv X pins σ H s) (g:zDH H a y o) (ry:yr y u) (h:∀ s',Inv X pins σ H s'->Q (.bool (!o.isSome)) s') :
  wpAny (model X.prog X.w) A (compareOp .NotIn u (.ref a)) Q E s:=by
 rcases g with ⟨kvs,k,e,ey,l⟩|⟨kvs,k,b,e,ey,eb,l⟩
 ·subst ey
  obtain ⟨z,hd,vs,rel,dd⟩:=zHP I.hok e
  refine wpAny_notIn_of (zGQ ry) hd dd.mapOf ?_
  rw [<- (rel.val k).isSome_eq,<- l]
  exact h _ (I.tok _)
 ·subst ey
  cases (show u=Value.ref b from ry)
  obtain ⟨z,hd,xs,rel,dd⟩:=zHQ I.hok e
  refine wpAny_notIn_heap (zVu hu) (zCo I.hok eb) hd dd ?_
  have q:=(rel.val k).isSome_eq
  rw [Option.isSome_map] at q
  rw [<- q,<- l]
  exact h _ (I.tok _)
theorem zEV {h':Heap} {t':Nat} {ob:HO} (I:Inv X pins σ H s) (mu:Mut (H a)) (hs:Heap.SameBut a s.heap h') (he:∃ q,h'.get? a=some q) (new:zAC X.prog X.w (upd H a ob) h' a ob) :
  Inv X pins σ (upd H a ob) { s with heap:=h',toks:=t' }:=
 I.write (x:=a) (e:=a) mu (.inl rfl) (λb q hb z=>(hs.2 b hb).trans z) he new
theorem zPc {P:Program} {w:World} {H':Hp} {h':Heap} {kvs:List (Key×V)} {vs:List (Key×Value)} (z:kvs.length<=sizeLine) (hd:(a == sysModules)=false) (rel:KV kvs vs) (dd:h'.DictOf (zy P w) a vs) :
  zAC P w H' h' a (.dK kvs):=⟨z,hd,vs,rel,dd⟩
theorem zLe {H':Hp} {Q:Unit->Shared->Prop} (hu:A.units+1<cLine) (I:Inv X pins σ H s) (g:zLc H a y v H') (ry:yr y u) (rv:yr v r) (h:∀ s',Inv X pins σ H' s'->Q () s') :
  wpAny (model X.prog X.w) A (setItem (.ref a) u r) Q E s:=by
 rcases g with ⟨kvs,k,e,ey,l,eH⟩|⟨kvs,k,b,e,ey,eb,l,eH⟩
 ·subst ey eH
  obtain ⟨z,hd,vs,rel,dd⟩:=zQg I.hok e
  have hz:vs.length<=sizeLine:=by rw [<- rel.length];exact z
  have hl:(zCN kvs k v).length<=sizeLine:=by have:=zAP kvs k v;omega
  refine wpAny_setItem_pairs (hsz:=hz) (zGQ ry) dd λh' dd' hs=>h _ ?_
  have he:∃ q,h'.get? a=some q:=let ⟨q,_,_,hq,_⟩:=dd';⟨q,hq⟩
  exact zEV I (by rw [e];exact True.intro) hs he (zPc hl hd (rel.put k rv) dd')
 ·subst ey eH
  cases (show u=Value.ref b from ry)
  obtain ⟨z,hd,xs,rel,dd⟩:=zQh I.hok e
  have hz:xs.length<=sizeLine:=by rw [<- zWO rel];exact z
  have hl:(zCN kvs k v).length<=sizeLine:=by have:=zAP kvs k v;omega
  refine wpAny_setItem_heap (hsz:=hz) (zVu hu) (zCo I.hok eb) dd λh' dd' hs=>h _ ?_
  obtain ⟨q,es,ep,hq,h2,h3,h4,_,h5⟩:=dd'
  refine zEV I (by rw [e];exact True.intro) hs ⟨q,hq⟩ ⟨hl,hd,_,(rel.put k eb rv).keeps λc ys ec=>?_,q,es,ep,hq,h2,h3,h4,h5⟩
  rw [zK (zQD ec e (λz=>nomatch z))]
  exact ec
end
section
variable {X:Cx} {pins:PNt} {σ:St} {H:Hp} {s:Shared} {a:Addr} {kvs:List (Key×V)} {k:Key} {u:Value} {A:Around} {E:VSt}
end
def zSO (i:Expr):Prop:=∀ ov iv,subscripted i false ov iv=operate [ov,iv] (getItem ov iv)
theorem zQj {prog:Program} {w:World} {A:Around} {E:VSt} {s:Shared} {env:Env} {value slice:Expr} {pos:Pos} {T id:String} {Q:VSt}
  (hl:typeLookup (.type T) "__getitem__" = pure (some (.builtin id))) (hs:zSO slice)
  (h:wpAny (model prog w) A (eval value env) (λo s₁=>wpAny (model prog w) A (eval slice env) (λi s₂=>s₂.TypeIs o T/\wpAny (model prog w) A (getItem o i) Q E s₂) E s₁) E s) :
  wpAny (model prog w) A (eval (.Subscript value slice pos) env) Q E s:=by
 refine Subscript_ (zVM h (λo s₁ h₁=>zVM h₁ (λi s₂ h₂=>?_) λ_ _ x=>x) λ_ _ x=>x)
 obtain ⟨hT,h₂⟩:=h₂
 unfold subscriptTail
 refine zUe ?_
 rw [getitemInPython_of_ne hT.not_modules]
 refine zUe (wpAny_specialOf hT hl ?_)
 have fin:wpAny (model prog w) A (subscripted slice false o i) (λr s₃=>wpAny (model prog w) A (letTemporaryGo value o r >>= λ_=>pure r) Q E s₃) E s₂:=by
  rw [hs o i]
  exact wpAny_operating (zVM h₂ (λr s₃ h₃=>zUe (wpAny_letTemporaryGo (zUl h₃))) λ_ _ x=>x)
 first
  |exact zUl (zUe fin)
  |exact zUe (zUl (zUe fin))
  |exact zUe fin
theorem zIZ {X:Cx} {pins:PNt} {σ:St} {H:Hp} {s:Shared} {a:Addr} {y:V} {o:Option V} (I:Inv X pins σ H s) (g:zDH H a y o):s.TypeIs (.ref a) "dict":=by
 rcases g with ⟨kvs,k,e,_,_⟩|⟨kvs,k,b,e,_,_,_⟩
 ·obtain ⟨_,_,vs,_,dd⟩:=zHP I.hok e
  exact dd.typeIs
 ·obtain ⟨_,_,xs,_,dd⟩:=zHQ I.hok e
  exact dd.typeIs
noncomputable def tDGet (td ty:TE):TE:=λσ H Q=>td σ H λx H1=>ty σ H1 λy H2=>∃ a v,x = .ref a/\zDH H2 a y (some v)/\Q v H2
noncomputable def tDIn (ty td:TE):TE:=λσ H Q=>ty σ H λy H1=>td σ H1 λx H2=>∃ a o,x = .ref a/\zDH H2 a y o/\Q (.bl o.isSome) H2
noncomputable def zQk (ty td:TE):TE:=λσ H Q=>ty σ H λy H1=>td σ H1 λx H2=>∃ a o,x = .ref a/\zDH H2 a y o/\Q (.bl (!o.isSome)) H2
noncomputable def sDPut (td ty tv:TE):TS:=λD σ H=>tv σ H λv H1=>td σ H1 λx H2=>ty σ H2 λy H3=>∃ a H4,x = .ref a/\zLc H3 a y v H4/\D.nx σ H4
section
variable {X:Cx} {o i e value:Expr} {pos pos' tpos:Pos} {td ty tv:TE}
theorem zGR (hu:X.A.units+1<cLine) (ho:PE X o td) (hi:PE X i ty) (hs:zSO i):PE X (.Subscript o i pos) (tDGet td ty):=by
 intro pins s σ H Q I h
 refine zQj PySem.F.slot_dict_getitem.lookup hs (thn (ho pins s σ H _ I h) λu s1 ⟨x,H1,I1,rx,q1⟩=>thn (hi pins s1 σ H1 _ I1 q1) λiv s2 zz=>?_)
 obtain ⟨y,H2,I2,ry,a,v,ex,g,q2⟩:=zz
 subst ex
 obtain rfl:u=Value.ref a:=rx
 exact ⟨zIZ I2 g,zLd hu I2 g ry λw' s3 I3 rw'=>⟨v,H2,I3,rw',q2⟩⟩
theorem zPd (hu:X.A.units+1<cLine) (hi:PE X i ty) (ho:PE X o td):PC X .In i o (tDIn ty td):=by
 intro pins s σ H Q I h
 refine thn (hi pins s σ H _ I h) λiv s1 ⟨y,H1,I1,ry,q1⟩=>thn (ho pins s1 σ H1 _ I1 q1) λu s2 zz=>?_
 obtain ⟨x,H2,I2,rx,a,ov,ex,g,q2⟩:=zz
 subst ex
 obtain rfl:u=Value.ref a:=rx
 exact d_in hu I2 g ry λs3 I3=>⟨.bl ov.isSome,H2,I3,rfl,q2⟩
theorem zLf (hu:X.A.units+1<cLine) (hi:PE X i ty) (ho:PE X o td):PC X .NotIn i o (zQk ty td):=by
 intro pins s σ H Q I h
 refine thn (hi pins s σ H _ I h) λiv s1 ⟨y,H1,I1,ry,q1⟩=>thn (ho pins s1 σ H1 _ I1 q1) λu s2 zz=>?_
 obtain ⟨x,H2,I2,rx,a,ov,ex,g,q2⟩:=zz
 subst ex
 obtain rfl:u=Value.ref a:=rx
 exact zQi hu I2 g ry λs3 I3=>⟨.bl (!ov.isSome),H2,I3,rfl,q2⟩
theorem zLg (hu:X.A.units+1<cLine) (ho:PE X o td) (hi:PE X i ty) (hv:PE X value tv) (hs:swapsWith value (some (.Subscript o i pos')) pos.line X.env=pure false) :
  PS X (.Assign [.Subscript o i pos'] value pos) (sDPut td ty tv):=by
 intro pins s σ H D I h
 refine wpAny_Assign_Subscript (thn (hv pins s σ H _ I h) λr s1 ⟨v,H1,I1,rv,q1⟩=>thn (ho pins s1 σ H1 _ I1 q1) λu s2 ⟨x,H2,I2,rx,q2⟩=>thn (hi pins s2 σ H2 _ I2 q2) λiv s3 ⟨y,H3,I3,ry,a,H4,ex,g,q3⟩=>?_) hs
 subst ex
 obtain rfl:u=Value.ref a:=rx
 exact zLe hu I3 g ry rv λs4 I4=>⟨σ,H4,I4,q3⟩
end
theorem zNu {P:Program} {w:World} {H:Hp} (h:Heap) (hb:sysModules<h.objs.size):zAC P w H (h.push { cls:=.type "dict",data:=.dict #[] }) h.objs.size (.dK []):=
 ⟨zV7 _,zVJ.mpr (Ne.symm (zU0 hb)),[],.nil,Heap.DictOf.new h⟩
theorem zJV {P:Program} {w:World} {H:Hp} (h:Heap) (hb:sysModules<h.objs.size):zAC P w H (h.push { cls:=.type "dict",data:=.dict #[] }) h.objs.size (.dT []):=
 ⟨zV7 _,zVJ.mpr (Ne.symm (zU0 hb)),[],.nil,_,#[],0,zU4 _ rfl,⟨rfl,rfl,rfl⟩,rfl,rfl,List.nodup_nil⟩
noncomputable def zS7:TE:=λ_ H Q=>∀ p,H p=none->Q (.ref p) (upd H p (.dK []))
noncomputable def zS8:TE:=λ_ H Q=>∀ p,H p=none->Q (.ref p) (upd H p (.dT []))
section
variable {X:Cx} {pos:Pos}
theorem zJW:PE X (.Dict [] [] pos) zS7:=λpins s σ H Q I h=>
 wpAny_Dict_empty ⟨.ref s.heap.objs.size,_,I.laid (a:=s.heap.objs.size) (o:=.dK []) (t':=s.toks) (λ_ _ q=>zUk _ q) (zUn _) (zNu s.heap I.big),rfl,h _ (I.hok.fresh (zUn _))⟩
theorem zNv:PE X (.Dict [] [] pos) zS8:=λpins s σ H Q I h=>
 wpAny_Dict_empty ⟨.ref s.heap.objs.size,_,I.laid (a:=s.heap.objs.size) (o:=.dT []) (t':=s.toks) (λ_ _ q=>zUk _ q) (zUn _) (zJV s.heap I.big),rfl,h _ (I.hok.fresh (zUn _))⟩
end
structure M2 (X:Cx) (o:Expr) (m:Str) (apos:Pos) (e f:Expr) (cpos:Pos):Prop where
 base:attributeBase o m X.env (eval o X.env)=eval o X.env
 few:((backTo cpos (starEach [e,f] X.env)).all (λx=>!x.1) && (backToKw cpos (keywordEach [] X.env)).all (λx=>x.1.isSome)
  && decide (([e,f]:List Expr).length+([]:List Keyword).length+(if ([]:List Keyword).isEmpty then 0 else 1)<30))=true
 line:(apos.endLine == cpos.line)=true
 trees:backTo cpos (starEach [e,f] X.env) = [(false,eval e X.env),(false,eval f X.env)]
def IsD (H:Hp) (a:Addr):Prop:=(∃ kvs,Rd H a (.dK kvs))\/∃ kvs,Rd H a (.dT kvs)
theorem zS9 {X:Cx} {pins:PNt} {σ:St} {H:Hp} {s:Shared} {a:Addr} (I:Inv X pins σ H s) (d:IsD H a) :
  s.TypeIs (.ref a) "dict"/\(∀ b,Value.ref a = .ref b->∃ ob,s.heap.get? b=some ob/\ob.dict=none)/\(a == sysModules)=false:=by
 rcases d with ⟨kvs,e⟩|⟨kvs,e⟩
 ·obtain ⟨_,hd,vs,_,dd⟩:=zHP I.hok e
  refine ⟨dd.typeIs,λb q=>?_,hd⟩
  cases q
  obtain ⟨ob,_,_,h1,h2,_⟩:=dd
  exact ⟨ob,h1,h2.2.1⟩
 ·obtain ⟨_,hd,xs,_,dd⟩:=zHQ I.hok e
  refine ⟨dd.typeIs,λb q=>?_,hd⟩
  cases q
  obtain ⟨ob,_,_,h1,h2,_⟩:=dd
  exact ⟨ob,h1,h2.2.1⟩
section
variable {X:Cx} {pins:PNt} {σ:St} {H:Hp} {s:Shared} {a:Addr} {y d:V} {u r:Value} {o:Option V} {A:Around} {E:VSt}
theorem zTA {Q:VSt} (hu:A.units+1<cLine) (I:Inv X pins σ H s) (g:zDH H a y o) (ry:yr y u) (rd:yr d r) (h:∀ w' s',Inv X pins σ H s'->yr (o.getD d) w'->Q w' s') :
  wpAny (model X.prog X.w) A (call (.builtin "dict.get") [.ref a,u,r]) Q E s:=by
 rcases g with ⟨kvs,k,e,ey,l⟩|⟨kvs,k,b,e,ey,eb,l⟩
 ·subst ey
  obtain ⟨z,hd,vs,rel,dd⟩:=zHP I.hok e
  refine zWv zWt dd.typeIs PySem.F.entry_dict_get (PySem.F.args_dict_get_3 _ _ _) (meets_dict_get_default (zy X.prog X.w) a (zGQ ry) hd r) ⟨_,dd.mapOf,h _ _ (I.tok _) ?_⟩
  rw [l]
  exact (rel.val k).getD rd
 ·subst ey
  cases (show u=Value.ref b from ry)
  obtain ⟨z,hd,xs,rel,dd⟩:=zHQ I.hok e
  refine zWv zWt dd.typeIs PySem.F.entry_dict_get (PySem.F.args_dict_get_3 _ _ _) (meetsH_dict_get_default (tupleKind (zy X.prog X.w)) a b hd r) ⟨zVu hu,k,xs,zCo I.hok eb,dd,h _ _ (I.tok _) ?_⟩
  rw [l]
  exact (rel.val k).getD rd
end
noncomputable def zTB (td ty tx:TE):TE:=λσ H Q=>td σ H λx H1=>∃ a,x = .ref a/\IsD H1 a/\ty σ H1 λy H2=>tx σ H2 λz H3=>∃ o,zDH H3 a y o/\Q (o.getD z) H3
section
variable {X:Cx} {o e f:Expr} {apos cpos:Pos} {td ty tx:TE}
theorem zNw (hu:X.A.units+1<cLine) (ho:PE X o td) (he:PE X e ty) (hf:PE X f tx) (m:M2 X o "get" apos e f cpos):PE X (.Call (.Attribute o "get" apos) [e,f] [] cpos) (zTB td ty tx):=by
 intro pins s σ H Q I h
 refine wpAny_Call_method m.base m.few m.line zWd zWt PySem.F.type_dict_get (thn (ho pins s σ H _ I h) λu s1 zz=>?_)
 obtain ⟨x,H1,I1,rx,a,ex,d,q1⟩:=zz
 subst ex
 obtain rfl:u=Value.ref a:=rx
 obtain ⟨t1,t2,_⟩:=zS9 I1 d
 refine ⟨t1,t2,?_⟩
 rw [m.trees]
 refine zWf rfl (Calls.evalArgs_plain (Calls.spliced_cons (thn (he pins s1 σ H1 _ I1 q1) λiv s2 ⟨y,H2,I2,ry,q2⟩=>
  Calls.spliced_cons (thn (hf pins s2 σ H2 _ I2 q2) λfv s3 ⟨z,H3,I3,rz,ov,g,q3⟩=>Calls.spliced_nil ?_))))
 exact zTA hu I3 g ry rz λw' s4 I4 rw'=>⟨_,H3,I4,rw',q3⟩
end
section
variable {X:Cx} {pins:PNt} {σ:St} {H:Hp} {s:Shared} {a:Addr} {kvs:List (Key×V)} {A:Around} {E:VSt}
end
section
variable {X:Cx} {pins:PNt} {σ:St} {H:Hp} {s:Shared} {a:Addr} {y:V} {u:Value} {A:Around} {E:VSt}
end
end L2
namespace Att
open PySem PySem.W PySem.Calls PyProof.Rows
theorem zEW {P:Params} {h:Heap}:∀ (ns:List Int) (vs:List Value),WellAll P h vs (ns.map WData.int)->IntsAre vs ns:=by
 intro ns
 induction ns with
 |nil=>
  intro vs w
  rw [zVq] at w
  cases w
  exact .nil
 |cons n ns ih=>
  intro vs w
  rw [zUc] at w
  cases w with
  |cons a b=>
   cases a
   exact .cons _ _ (ih _ b)
theorem zLh {l:OpenLaw} {n:Nat} (hn:l.most=some n) {P:Params} {h:Heap} {args:List WData} {vals:List Value}
  (hpre:l.row.toRowW.claim.pre args=true) (hwl:WellAll P h vals args) :
  ∃ a vs ns,vals = [Value.ref a]/\args = [WData.list (ns.map WData.int)]/\h.get? a=some { cls:=.type "list",data:=.seq vs.toArray }/\IntsAre vs ns/\ns.length<=n:=by
 have hsh:WShape.hasAll [] args [.list .int]=true:=(pre_splitW hpre).1
 have hc:l.pre.holds [] { args:=args }=true:=(pre_splitW hpre).2
 obtain ⟨d,r,rfl,h1,h2⟩:=hasAllW_cons hsh
 obtain rfl:=hasAllW_nil h2
 obtain ⟨xs,rfl,h3⟩:=hasW_list h1
 obtain ⟨ns,rfl⟩:=items_int h3
 have hlen:ns.length<=n:=by
  unfold OpenLaw.pre at hc
  have h4:(WTm.not (.lt (.lit (.int (n:Int))) (.len (.arg 0)))).holds [] { args:=[.list (ns.map .int)] }=true:=by
   have h4:=(holds_andW hc).1
   rw [hn] at h4
   exact h4
  have h5:=condW_of h4 (w_not (w_lt w_lit (w_len_list (w_arg rfl))))
  rw [zUi] at h5
  refine Nat.le_of_not_lt λq=>?_
  have q':(n:Int)<((ns.length:Nat):Int):=by omega
  first
   |(rw [zVk q'] at h5;exact absurd h5 (by decide))
   |(simp at h5;omega)
 cases hwl with
 |cons w1 w2=>
  cases w2
  cases w1 with
  |list ho hall=>exact ⟨_,_,ns,rfl,rfl,ho,zEW ns _ hall,hlen⟩
theorem zLi (l:OpenLaw) (args:List WData):l.row.toRowW.claim.post args (.bool true) args=true:=
 postW_of (r:=l.row.toRowW) (X:=(true == true))
  (show WShape.has [] (.bool true) .bool=true by first|rfl|decide|simp [WShape.has,WShape.arms,WShape.armsAll])
  (show (WTm.eq .res (.lit (.bool true))).value [] { args:=args,res:=some (.bool true),after:=args }=some (.bool (true == true)) from w_eq_bool (w_res rfl) w_lit) rfl
theorem attach_call {l:OpenLaw} {n:Nat} {q:Program} {loose:List Str} {XP:(Str->Option Value)->Heap->Prop} {YP:World->Heap->Prop} {d:DefRec}
  (hn:l.most=some n) (hdf:d.params.defaults = [])
  (call:∀ (w:World) (s₀ s₁:Shared) (mg mb:MGt) (fa:Addr) (o:Obj) (pm cd doc:Value) (a:Addr) (vs:List Value) (ns:List Int),
   Ground q loose [] XP w s₀ mg mb s₁.heap->YP w s₁.heap ->
   s₁.heap.get? fa=some o->o.data = .func (docDef d.name d.params d.body d.scope pm cd doc)->s₁.heap.CodeRec cd d.name->mg d.name=some (.ref fa) ->
   s₁.heap.get? a=some { cls:=.type "list",data:=.seq vs.toArray }->IntsAre vs ns->ns.length<=n->s₁.gens = #[] ->
   codeAny (model l.prog w) callerA (.call (.ref fa) ⟨[.ref a],[]⟩) (λr s'=>r = .ok (.ret (.bool true))/\OldK s₁.heap s'.heap/\s'.os=s₁.os/\AllBare s'.gens) s₁) :
  WalkO q loose XP YP l.row.toRowW d [] (λf vs=>PySem.call f vs):=by
 intro w s₀ s₁ mg mb G Y fa o pm cd doc dV kV ho hd hcd hD hmg hg args vals as hpre hlay hrd hwl hlo
 obtain rfl:dV = .none:=Dflts.none hD hdf
 obtain rfl:kV = .none:=Dflts.noKw hD
 obtain ⟨a,vs,ns,rfl,rfl,hobj,hints,hlen⟩:=zLh hn hpre hwl
 refine enter_call (codeAny_mono (call w s₀ s₁ mg mb fa o pm cd doc a vs ns G Y ho (fd_plain hd) hcd hmg hobj hints hlen hg) λr s' hq=>?_)
 obtain ⟨rfl,h2,h3,h4⟩:=hq
 exact ⟨.inl ⟨.bool true,.bool true,[],rfl,λ_=>rfl,.bool true,zLi l _,λ_=>⟨List.Pairwise.nil,λ_ hm=>(nomatch hm)⟩⟩,h2,h3,h4⟩
section
variable {prog:Program} {w:World} {A:Around} {E:VSt} {s:Shared} {K:Frag}
end
end Att
namespace L2
open PySem PySem.Spec PyProof.Rows
theorem zHR:∀ {vs:List Value} {ns:List Int},IntsAre vs ns->yP (ns.map V.int) vs
 |_,_,.nil=>.nil
 |_,_,.cons n t h=>.cons ⟨t,rfl⟩ (zHR h)
def Only (H:Hp):Prop:=∀ b,H b=none\/∃ o xs,H b=some (.frz o (.lst xs))
theorem zNx {P:Program} {w:World} {K:Fg} {mg mb:MGt} {CX:CXT} {k:Nat} {fa a:Addr} {fd:FuncData} {x:Str} {sp:Sp} {s₁:Shared} {vs:List Value} {ns:List Int}
  (KX:K.In s₁.heap) (hns:s₁.heap.Ns mainGlobals mg) (hb:s₁.heap.Ns builtinsNs mb) (hbb:∀ x:Str,x ≠ "__name__"->mb x=bootBuiltins x) (hlim:s₁.heap.NoLimit) (hg:s₁.gens = #[])
  (ha:s₁.heap.get? a=some { cls:=.type "list",data:=.seq vs.toArray }) (hi:IntsAre vs ns) (hl:ns.length<=sizeLine) (hr:zAO k callerA)
  (F:∀ base:Heap,K.In base->base.Ns mainGlobals mg->zCb P w K mg base CX k fa fd [x] sp) (hbind:∀ (s:Shared) (u:Value),BindsTo s fd ⟨[u],[]⟩ [(x,u)])
  (hsp:∀ H:Hp,Only H->SqL K H a (ns.map V.int)->sp [.ref a] H (λv _=>v = .bl true) λ_ _ _=>False)
  (hCX:∀ H e s',CX [] H s₁ (λ_ _ _=>False) e s'->False) :
  codeAny (model P w) callerA (.call (.ref fa) ⟨[.ref a],[]⟩) (λr s'=>r = .ok (.ret (.bool true))/\OldK s₁.heap s'.heap/\s'.os=s₁.os/\AllBare s'.gens) s₁:=by
 have rv:=zHR hi
 have lenV:=hi.length
 -- from an abstract heap in which nothing but the script may be tracked
 have core:∀ H:Hp,Only H->SqL K H a (ns.map V.int)->HOk P w H s₁.heap->(∀ b,H b≠none->b=a)->(H a≠none->K.lookup a=none) ->
   codeAny (model P w) callerA (.call (.ref fa) ⟨[.ref a],[]⟩) (λr s'=>r = .ok (.ret (.bool true))/\OldK s₁.heap s'.heap/\s'.os=s₁.os/\AllBare s'.gens) s₁:=by
  intro H hO hS hok hA hK
  have base_of:∀ {b:Addr} {o:Obj},s₁.heap.get? b=some o->H b=none->(zNh s₁.heap H).get? b=some o:=λe n=>zNi e n
  have noA:∀ {b:Addr} {o:Obj} {es:Array DictEntry} {ep:Nat},s₁.heap.get? b=some o->o.data = .dict es ep->H b=none:=λ{b o es ep} e d=>by
   cases q:H b with
   |none=>rfl
   |some u=>
    have e':b=a:=hA b (by rw [q];simp)
    subst e'
    rw [ha] at e;cases e
    have d':Data.seq vs.toArray _=Data.dict es ep:=d
    cases d'
  have nsK:∀ {b:Addr} {m:MGt},s₁.heap.Ns b m->(zNh s₁.heap H).Ns b m:=λ{b m} ⟨o,es,ep,e,d,r⟩=>⟨o,es,ep,base_of e (noA e d),d,r⟩
  have hKb:K.In (zNh s₁.heap H):=λb o e=>base_of (KX b o e) (by
   cases q:H b with
   |none=>rfl
   |some u=>
    have e':b=a:=hA b (by rw [q];simp)
    subst e'
    rw [hK (by rw [q];simp)] at e;cases e)
  have hM:Mod K mg (zNh s₁.heap H):=⟨hKb,nsK hns,⟨mb,nsK hb,hbb⟩,let ⟨mc,h1,h2⟩:=hlim;⟨mc,nsK h1,h2⟩⟩
  have e0:zQW P w K mg (zNh s₁.heap H) callerA [] s₁ H:=⟨rfl,hM,λb o e=>zQE e,Nat.le_of_eq (zLH _ _),trivial,λb hb=>absurd (show b∈([]:List Addr) from hb) (by simp),hok,.of_eq hg⟩
  refine codeAny_mono ((F _ hKb (nsK hns)).run callerA [] s₁ H ⟨[.ref a],[]⟩ [.ref a] [.ref a] _ _ hr e0 (hbind s₁ (.ref a)) (.cons rfl .nil) (hsp H hO hS)) λr s' h=>?_
  cases r with
  |error e=>exact (hCX H e s' h).elim
  |ok fl=>
   cases fl with
   |next=>exact False.elim h
   |brk=>exact False.elim h
   |cont=>exact False.elim h
   |ret u=>
    obtain ⟨v,H',os,bare,un,hok',r',q⟩:=h
    have q':v = .bl true:=q
    subst q'
    obtain rfl:u=Value.bool true:=r'
    refine ⟨rfl,OldK.of_keep λb o e=>?_,os,bare⟩
    cases q:H b with
    |none=>exact un.keep b o e q (by intro z;exact absurd (show b∈([]:List Addr) from z) (by simp)) (by simp)
    |some u=>
     rcases hO b with z|⟨ob,xs,z⟩
     ·rw [q] at z;cases z
     ·have z2:=un.frzs b ob _ z
      obtain ⟨e1,_⟩:=hok b _ z
      obtain ⟨e2,_⟩:=hok' b _ z2
      rw [e] at e1;cases e1
      exact e2
 cases hk:K.lookup a with
 |some o=>
  -- the script is one of the module's own objects
  have e:=KX a o hk
  rw [ha] at e
  cases e
  refine core (λ_=>none) (λ_=>.inl rfl) (.inr ⟨_,vs.toArray,_,hk,rfl,rfl,rfl,by rw [zUh,lenV];exact hl,by simpa using rv⟩) (λb u z=>by have z':(none:Option HO)=some u:=z;cases z') (λb z=>absurd rfl z) λz=>absurd rfl z
 |none=>
  refine core (λb=>if b=a then some (.frz { cls:=.type "list",data:=.seq vs.toArray } (.lst (ns.map V.int))) else none) (λb=>?_) (.inl (.inr ⟨{ cls:=.type "list",data:=.seq vs.toArray },zUp rfl⟩)) (λb u z=>?_) (λb z=>?_) λ_=>hk
  ·by_cases hb:b=a
   ·exact .inr ⟨_,_,zUp hb⟩
   ·exact .inl (zVD hb)
  ·by_cases hb:b=a
   ·have z':=(zUp hb).symm.trans z
    cases z'
    subst hb
    exact ⟨ha,by rw [zUi];exact hl,vs,_,rv,ha⟩
   ·have z':=(zVD hb).symm.trans z
    cases z'
  ·by_cases hb:b=a
   ·exact hb
   ·exact absurd (zVD hb) z
end L2
namespace L2
open PySem PySem.Spec PyProof.Rows
theorem zLj {l:PySem.W.OpenLaw} {n k:Nat} {q:Program} {loose:List Str} {XP:(Str->Option Value)->Heap->Prop} {YP:World->Heap->Prop} {d:DefRec} {K:Params->Fg} {CX:World->CXT} {sp:World->Sp} {x:Str}
  (hn:l.most=some n) (hn2:n<=sizeLine) (hdf:d.params.defaults = []) (hr:zAO k callerA)
  (hY:∀ (w:World) (h:Heap),YP w h->(K w.params).In h)
  (F:∀ (w:World) (mg:MGt) (fa:Addr) (h:Heap),(K w.params).In h->h.Ns mainGlobals mg->mg d.name=some (.ref fa) ->
   ∃ fd:FuncData,(∀ (s:Shared) (u:Value),BindsTo s fd ⟨[u],[]⟩ [(x,u)]) /\
    ∀ base:Heap,(K w.params).In base->base.Ns mainGlobals mg->zCb l.prog w (K w.params) mg base (CX w) k fa fd [x] (sp w))
  (hsp:∀ (w:World) (H:Hp) (a:Addr) (ns:List Int),ns.length<=n->Only H->SqL (K w.params) H a (ns.map V.int)->sp w [.ref a] H (λv _=>v = .bl true) λ_ _ _=>False)
  (hCX:∀ (w:World) (H:Hp) (s:Shared) (e:Value) (s':Shared),CX w [] H s (λ_ _ _=>False) e s'->False) :
  PySem.W.WalkO q loose XP YP l.row.toRowW d [] (λf vs=>PySem.call f vs):=by
 refine Att.attach_call hn hdf λw s₀ s₁ mg mb fa o pm cd doc a vs ns G Y ho hd hcd hmg hobj hints hlen hg=>?_
 have KX:=hY w _ Y
 obtain ⟨fd,hb,hF⟩:=F w mg fa _ KX G.T.g hmg
 exact zNx KX G.T.g G.T.b G.T.builtins G.T.nolimit hg hobj hints (zVF hlen hn2) hr hF hb (λH hO hS=>hsp w H a ns hlen hO hS) λH e s'=>hCX w H s₁ e s'
end L2
/- THE LAST THEOREM (shape;LID,My.* are yours):
 My.Adr: a structure of the addresses that your layer names (classes,functions);My.Txt K t: a structure (Prop) of the equations over K;
 My.txt_mk:{K} {implicit addresses ..} (e1:nsIn K mainGlobals "law" = some (some (.ref f))) (e2:K.lookup f=some ⟨oc,od,.func (fnOf "law" "law" params body scope dV kV doc pm an cdv ct),sl⟩) (e3:codeIn K cdv "law" = true) .. : ∃ t,My.Txt K t
set_option maxRecDepth 100000 in
set_option maxHeartbeats 0 in
theorem PySem.Challenge.cw_LID_holds : PySem.Challenge.rw_LID.Holds := by
 w_on;o_law;k_head;(case hw=>w_witness2)
 k_fill
 refine L2.zLj (l:=PySem.Challenge.rw_LID) (n:=63) (k:=40) (x:="script") (CX:=λw=>..) (sp:=λ_=>My.sp_law) rfl (by decide) rfl ⟨rfl,by decide,by decide⟩ (λw h Y=>PySem.W.kIn_of Y) ?F ?S ?C
 case F=>
  intro w mg fa h KX G hmg
  have T:∃ t,My.Txt (L2.KOf KX) t:=by
   dsimp only [L2.KOf]                          -- K must stand as «<heap const> w.params» for k_is
   refine' My.txt_mk ?e1 ?e2 ?e3 ..
   (case e1=>PySem.W.k_is)                    -- in the order: a name -> its address -> its object -> its parts
   (case e2=>PySem.W.k_is)
   ..
  obtain ⟨t,T⟩:=T
  have e0:=hmg.symm.trans (zU1 KX G T.law)
  cases e0                                       -- fa is the law's own address
  exact ⟨_,λs u=>.of_eq rfl,λbase kb nb=>My.law_fn T kb nb⟩     -- if «.of_eq rfl» comes too early: refine' ⟨_,?b,λbase kb nb=>My.law_fn T kb nb⟩;exact λs u=>.of_eq rfl
 case S=>exact λw H a ns hl hO hS=>..
 case C=>exact ..
(the tactic k_is has no namespace: write k_is) -/
namespace L2
open PySem PySem.Spec PyProof.Rows
abbrev CX0:CXT:=λ_ _ _ _ _ _=>False
abbrev E0:XK:=λ_ _ _=>False
theorem zKX {X:Cx}:zBb CX0 X E0:=λ_ _ _ _ _ _ _ h=>h.elim
structure Fun (K:Fg) (x qual:Str) (st:Stmt) (f:Addr) (fd:FuncData):Prop where
 ex:∃ (oc:Value) (od:Option Addr) (kV doc pm:Value) (an:Option Addr) (cdv ct:Value) (osl:Array (Option Value)),
  fd=PySem.W.fnOf x qual (zCX st) (yE st) (zH st) .none kV doc pm an cdv ct/\K.lookup f=some ⟨oc,od,.func fd,osl⟩/\PySem.W.codeIn K cdv qual=true
 kp:PySem.W.keepIn K (.ref f)=true
section
variable {P:Program} {w:World} {K:Fg} {mg:MGt} {base:Heap}
theorem Fun.ok {x qual:Str} {st:Stmt} {f:Addr} {fd:FuncData} {N ps:List Str} {k:Nat} {sp:Sp} (F:Fun K x qual st f fd) (S:zT N ps (zH st)) (len:∀ vs H Q E,sp vs H Q E->vs.length=ps.length)
  (hbody:∀ (cdv:Value) (A:Around) (outer:List Env) (s:Shared) (H:Hp) (vs:List V) (Q:VK) (E:XK),zAO k (A.deeper (envOfC qual (zH st) s.heap.objs.size f cdv))->sp vs H Q E ->
   ∃ t,PSs (zGM CX0 P w K mg base N qual (zH st) f cdv A outer s H E).nox (yE st) t/\t { nx:=λ_ H'=>Q .non H',rt:=Q } (zBj N vs) H):zCb P w K mg base CX0 (k+1) f fd ps sp:=by
 obtain ⟨oc,od,kV,doc,pm,an,cdv,ct,osl,rfl,lk,hcd⟩:=F.ex
 refine zNq lk hcd S len λA outer s H vs Q E hr hsp=>?_
 obtain ⟨t,h,q⟩:=hbody cdv A outer s H vs Q E hr hsp
 exact ⟨t,h.nox,q⟩
theorem Fun.binds {x qual:Str} {st:Stmt} {f:Addr} {fd:FuncData} {ps:List Str} (F:Fun K x qual st f fd)
  (h:∀ (kV doc pm:Value) (an:Option Addr) (cdv ct:Value) (us:List Value),us.length=ps.length->bindArgs (PySem.W.fnOf x qual (zCX st) (yE st) (zH st) .none kV doc pm an cdv ct) ⟨us,[]⟩=pure (ps.zip us)):zAu K fd ps []:=by
 obtain ⟨oc,od,kV,doc,pm,an,cdv,ct,osl,rfl,lk,hcd⟩:=F.ex
 exact .all (h kV doc pm an cdv ct)
theorem zPe {x qual:Str} {st:Stmt} {f:Addr} {oc:Value} {od an:Option Addr} {osl:Array (Option Value)} {kV doc pm cdv ct:Value} (l:K.lookup f=some ⟨oc,od,.func (PySem.W.fnOf x qual (zCX st) (yE st) (zH st) .none kV doc pm an cdv ct),osl⟩)
  (c:PySem.W.codeIn K cdv qual=true) (k:PySem.W.keepIn K (.ref f)=true):Fun K x qual st f (PySem.W.fnOf x qual (zCX st) (yE st) (zH st) .none kV doc pm an cdv ct):=⟨⟨oc,od,kV,doc,pm,an,cdv,ct,osl,rfl,l,c⟩,k⟩
end
theorem zHS {A:Around} {k:Nat} (hr:zAO k A):A.units+1<cLine:=Nat.lt_of_le_of_lt (Nat.add_le_add_left (by decide:1<=64) _) hr.units
theorem zLk {n:Nat} (h:n<=1000):n<sizeLine:=Nat.lt_of_le_of_lt h (by decide)
section
variable {X:Cx}
theorem pv (i:Nat) {x:Str} {pos:Pos} (hN:X.N[i]?=some x:=by rfl) (hv:Vis X.env.scope x:=by first|exact Or.inl rfl|exact Or.inr (Or.inl rfl)|exact Or.inr (Or.inr rfl)) (hd:(x == ("__debug__" : Str))=false:=by decide)
  (hcd:(x == ("__classdict__" : Str))=false:=by decide):PE X (.Name x pos) (zBi i):=zSY hN hv hd hcd
end
def zi (H H':Hp):Prop:=∀ b o,H b=some o->H' b=some o
theorem zi.refl (H:Hp):zi H H:=λ_ _ h=>h
theorem zi.trans {H H1 H2:Hp} (a:zi H H1) (b:zi H1 H2):zi H H2:=λc o h=>b c o (a c o h)
theorem zi.free {H H':Hp} (e:zi H H') {l:Addr} (h:H' l=Option.none):H l=Option.none:=by
 cases q:H l with
 |none=>rfl
 |some o=>
  rw [e l o q] at h
  cases h
theorem zi.seq {K:Fg} {H H':Hp} {a:Addr} {xs:List V} (e:zi H H') (h:SqL K H a xs):SqL K H' a xs:=by
 rcases h with (h|⟨o,h⟩)|h
 ·exact .inl (.inl (e _ _ h))
 ·exact .inl (.inr ⟨o,e _ _ h⟩)
 ·exact .inr h
end L2
namespace L2
open PySem PySem.Spec PyProof.Rows
section
variable {κ:Type} [DecidableEq κ]
end
end L2
namespace RD
open PySem PySem.Spec PyProof.Rows L2
inductive D where
 |non|bl (b:Bool)|int (i:Int)|str (x:Str)|tup (xs:List D)|lst (xs:List D)
section
variable (K:Fg) (G:Hp)
mutual
noncomputable def Rep:D->V->Prop
 |.non,v=>v = .non
 |.bl b,v=>v = .bl b
 |.int i,v=>v = .int i
 |.str x,v=>v = .str x
 |.tup ds,v=>∃ a vs,v = .ref a/\G a=some (.tup vs)/\Reps ds vs
 |.lst ds,v=>∃ a vs,v = .ref a/\SqL K G a vs/\Reps ds vs
noncomputable def Reps:List D->List V->Prop
 | [],vs=>vs = []
 |d::ds,vs=>∃ v r,vs=v::r/\Rep d v/\Reps ds r
end
end
theorem qT {K:Fg} {H H':Hp} {a:Addr} {xs:List V} (e:zi H H') (h:SqT K H a xs):SqT K H' a xs:=by
 rcases h with (h|⟨o,h⟩)|h
 ·exact .inl (.inl (e _ _ h))
 ·exact .inl (.inr ⟨o,e _ _ h⟩)
 ·exact .inr h
mutual
theorem Rep.mono {K:Fg} {G G':Hp} (s:zi G G'):∀ (d:D) (v:V),Rep K G d v->Rep K G' d v
 |.non,_,h=>by simpa [Rep] using h
 |.bl _,_,h=>by simpa [Rep] using h
 |.int _,_,h=>by simpa [Rep] using h
 |.str _,_,h=>by simpa [Rep] using h
 |.tup ds,_,h=>by
  simp only [Rep] at h ⊢
  obtain ⟨a,vs,e,q,r⟩:=h
  exact ⟨a,vs,e,s _ _ q,Reps.mono s ds vs r⟩
 |.lst ds,_,h=>by
  simp only [Rep] at h ⊢
  obtain ⟨a,vs,e,q,r⟩:=h
  exact ⟨a,vs,e,s.seq q,Reps.mono s ds vs r⟩
theorem Reps.mono {K:Fg} {G G':Hp} (s:zi G G'):∀ (ds:List D) (vs:List V),Reps K G ds vs->Reps K G' ds vs
 | [],_,h=>by simpa [Reps] using h
 |d::ds,_,h=>by
  simp only [Reps] at h ⊢
  obtain ⟨v,r,e,a,b⟩:=h
  exact ⟨v,r,e,Rep.mono s d v a,Reps.mono s ds r b⟩
end
section
variable {K:Fg} {G:Hp}
theorem zAQ {v:V}:Rep K G .non v↔v = .non:=by simp [Rep]
theorem yQ {b:Bool} {v:V}:Rep K G (.bl b) v↔v = .bl b:=by simp [Rep]
theorem yC {i:Int} {v:V}:Rep K G (.int i) v↔v = .int i:=by simp [Rep]
theorem zAR {x:Str} {v:V}:Rep K G (.str x) v↔v = .str x:=by simp [Rep]
theorem zBM {ds:List D} {v:V}:Rep K G (.tup ds) v↔∃ a vs,v = .ref a/\G a=some (.tup vs)/\Reps K G ds vs:=by simp only [Rep]
theorem zCc {ds:List D} {v:V} (h:Rep K G (.tup ds) v):∃ a vs,v = .ref a/\SqT K G a vs/\Reps K G ds vs:=let ⟨a,vs,e,q,r⟩:=zBM.mp h;⟨a,vs,e,SqT.of q,r⟩
theorem zAS {ds:List D} {v:V}:Rep K G (.lst ds) v↔∃ a vs,v = .ref a/\SqL K G a vs/\Reps K G ds vs:=by simp only [Rep]
theorem yR {vs:List V}:Reps K G [] vs↔vs = []:=by simp only [Reps]
theorem za {d:D} {ds:List D} {vs:List V}:Reps K G (d::ds) vs↔∃ v r,vs=v::r/\Rep K G d v/\Reps K G ds r:=by simp only [Reps]
theorem Reps.nil:Reps K G [] []:=yR.mpr rfl
theorem Reps.cons {d:D} {ds:List D} {v:V} {vs:List V} (h:Rep K G d v) (t:Reps K G ds vs):Reps K G (d::ds) (v::vs):=za.mpr ⟨v,vs,rfl,h,t⟩
theorem Reps.inv {d:D} {ds:List D} {v:V} {vs:List V} (h:Reps K G (d::ds) (v::vs)):Rep K G d v/\Reps K G ds vs:=by
 obtain ⟨v',r,e,a,b⟩:=za.mp h
 cases e
 exact ⟨a,b⟩
theorem Reps.length:∀ {ds:List D} {vs:List V},Reps K G ds vs->ds.length=vs.length
 | [],vs,h=>by rw [yR.mp h];rfl
 |d::ds,vs,h=>by
  obtain ⟨v,r,rfl,_,t⟩:=za.mp h
  rw [zUa,zUa,Reps.length t]
theorem Reps.get:∀ {ds:List D} {vs:List V} {i:Nat} {d:D},Reps K G ds vs->ds[i]?=some d->∃ v,vs[i]?=some v/\Rep K G d v
 | [],_,_,_,_,e=>by simp at e
 |d::ds,vs,0,d',h,e=>by
  obtain ⟨v,r,rfl,a,_⟩:=za.mp h
  simp at e;subst e
  exact ⟨v,rfl,a⟩
 |d::ds,vs,i+1,d',h,e=>by
  obtain ⟨v,r,rfl,_,t⟩:=za.mp h
  obtain ⟨v',e1,e2⟩:=Reps.get (i:=i) t (by simpa using e)
  exact ⟨v',by simpa using e1,e2⟩
theorem Reps.got {ds:List D} {vs:List V} {i:Nat} {v:V} (h:Reps K G ds vs) (e:vs[i]?=some v):∃ d,ds[i]?=some d/\Rep K G d v:=by
 have hl:i<ds.length:=by rw [h.length];exact (zUs.mp e).1
 obtain ⟨v',e1,r⟩:=h.get (i:=i) (d:=ds[i]) (by simp [hl])
 rw [e] at e1;cases e1
 exact ⟨ds[i],by simp [hl],r⟩
theorem Reps.append:∀ {ds es:List D} {vs us:List V},Reps K G ds vs->Reps K G es us->Reps K G (ds++es) (vs++us)
 | [],_,vs,_,h,t=>by rw [yR.mp h];exact t
 |d::ds,es,vs,us,h,t=>by
  obtain ⟨v,r,rfl,a,b⟩:=za.mp h
  exact Reps.cons a (Reps.append b t)
theorem Reps.take:∀ {ds:List D} {vs:List V} (n:Nat),Reps K G ds vs->Reps K G (ds.take n) (vs.take n)
 |_,_,0,_=>by simpa using Reps.nil
 | [],vs,n+1,h=>by rw [yR.mp h];simpa using Reps.nil
 |d::ds,vs,n+1,h=>by
  obtain ⟨v,r,rfl,a,b⟩:=za.mp h
  exact Reps.cons a (Reps.take n b)
theorem Reps.drop:∀ {ds:List D} {vs:List V} (n:Nat),Reps K G ds vs->Reps K G (ds.drop n) (vs.drop n)
 |_,_,0,h=>by simpa using h
 | [],vs,n+1,h=>by rw [yR.mp h];simpa using Reps.nil
 |d::ds,vs,n+1,h=>by
  obtain ⟨v,r,rfl,a,b⟩:=za.mp h
  exact Reps.drop n b
theorem Reps.set:∀ {ds:List D} {vs:List V} (i:Nat) {d:D} {v:V},Reps K G ds vs->Rep K G d v->Reps K G (ds.set i d) (vs.set i v)
 | [],vs,_,_,_,h,_=>by rw [yR.mp h];simpa using Reps.nil
 |d::ds,vs,0,d',v',h,q=>by
  obtain ⟨v,r,rfl,a,b⟩:=za.mp h
  exact Reps.cons q b
 |d::ds,vs,i+1,d',v',h,q=>by
  obtain ⟨v,r,rfl,a,b⟩:=za.mp h
  exact Reps.cons a (Reps.set i b q)
theorem Reps.dropLast:∀ {ds:List D} {vs:List V},Reps K G ds vs->Reps K G ds.dropLast vs.dropLast:=λ{ds vs} h=>by
 rw [List.dropLast_eq_take,List.dropLast_eq_take,h.length]
 exact h.take _
theorem Reps.ints:∀ (ns:List Int),Reps K G (ns.map D.int) (ns.map V.int)
 | []=>Reps.nil
 |n::ns=>Reps.cons (yC.mpr rfl) (Reps.ints ns)
end
structure zd (G H G' H':Hp):Prop where
 g:zi G G'
 h:zi H H'
 s:zi G' H'
 f:∀ b o,G' b=some o->G b=none->H b=none
theorem zd.refl {G H:Hp} (s:zi G H):zd G H G H:=⟨zi.refl _,zi.refl _,s,λb o e n=>by rw [n] at e;cases e⟩
theorem zd.trans {G H G1 H1 G2 H2:Hp} (a:zd G H G1 H1) (b:zd G1 H1 G2 H2):zd G H G2 H2:=
 ⟨a.g.trans b.g,a.h.trans b.h,b.s,λc o e n=>by
  cases q:G1 c with
  |some o'=>exact a.f c o' q n
  |none=>exact a.h.free (b.f c o e q)⟩
theorem yj {H:Hp} {p:Addr} {o:HO} (n:H p=none):zi H (upd H p o):=λb u e=>by rw [zK (yq e n)];exact e
theorem zd.new {G H:Hp} (s:zi G H) {p:Addr} {o:HO} (n:H p=none):zd G H (upd G p o) (upd H p o):=
 ⟨yj (s.free n),yj n,λb u e=>by
  by_cases hb:b=p
  ·subst hb;rw [zM] at e ⊢;exact e
  ·rw [zK hb] at e ⊢;exact s b u e,λb u e k=>by
  by_cases hb:b=p
  ·subst hb;exact n
  ·rw [zK hb] at e;rw [e] at k;cases k⟩
theorem zd.newH {G H:Hp} (s:zi G H) {p:Addr} {o:HO} (n:H p=none):zd G H G (upd H p o):=
 ⟨zi.refl _,yj n,s.trans (yj n),λb u e k=>by rw [e] at k;cases k⟩
inductive Fd where
 |l (xs:List D)|m (kvs:List (Key×D))|t (kvs:List (List Key×D))|ml (kvs:List (Key×List D))|tl (kvs:List (List Key×List D))
inductive Fl where
 |v (d:D)|f (x:Fd)
inductive Ob where
 |p (f:Fd)|ins (C:Addr) (fs:List (Str×Fl))
def zA4 (K:Fg) (G:Hp) (kvs:List (Key×D)) (ws:List (Key×V)):Prop:=kvs.map (·.1)=ws.map (·.1)/\Reps K G (kvs.map (·.2)) (ws.map (·.2))
theorem zA4.mono {K:Fg} {G G':Hp} (s:zi G G') {kvs:List (Key×D)} {ws:List (Key×V)} (h:zA4 K G kvs ws):zA4 K G' kvs ws:=⟨h.1,Reps.mono s _ _ h.2⟩
noncomputable def zQl:V->Option Addr
 |.ref a=>some a
 |_=>none
theorem zNy {v:V} {a:Addr} (h:zQl v=some a):v = .ref a:=by
 cases v<;>first|(cases h;done)|(simp only [zQl,zWN] at h;rw [h])
noncomputable def zDI {κ:Type} (ws:List (κ×V)):List Addr:=ws.filterMap λq=>zQl q.2
theorem qG {κ:Type} {ws:List (κ×V)} {a:Addr}:a∈zDI ws↔.ref a∈ws.map (·.2):=by
 unfold zDI
 rw [zU6,zVA]
 constructor
 ·rintro ⟨q,h,e⟩;exact ⟨q,h,zNy e⟩
 ·rintro ⟨q,h,e⟩;exact ⟨q,h,by rw [e];rfl⟩
noncomputable def inK:Option HO->List Addr
 |some (.dK ws)=>zDI ws
 |some (.dT ws)=>zDI ws
 |_=>[]
noncomputable def fpF (H:Hp):Fd->Addr->List Addr
 |.l _,a=>[a]
 |.m _,a=>[a]
 |.t _,a=>[a]
 |.ml _,a=>a::inK (H a)
 |.tl _,a=>a::inK (H a)
noncomputable def fpL (H:Hp):Fl->V->List Addr
 |.f x,.ref a=>fpF H x a
 |_,_=>[]
noncomputable def fpW (H:Hp) (fs:List (Str×Fl)) (ws:List (Str×V)):List Addr:=fs.flatMap λq=>match ws.lookup q.1 with
 |some u=>fpL H q.2 u
 |none=>[]
noncomputable def inI (H:Hp) (fs:List (Str×Fl)):Option HO->List Addr
 |some (.ins _ dx ws)=>dx::fpW H fs ws
 |_=>[]
noncomputable def fpO (H:Hp):Ob->Addr->List Addr
 |.p f,a=>fpF H f a
 |.ins _ fs,a=>a::inI H fs (H a)
section
variable (K:Fg) (G H:Hp)
noncomputable def yD:List (List D)->List V->Prop
 | [],vs=>vs = []
 |xs::r,vs=>∃ b us t,vs = .ref b::t/\H b=some (.lst us)/\Reps K G xs us/\yD r t
noncomputable def zGS:Fd->Addr->Prop
 |.l xs,a=>∃ vs,H a=some (.lst vs)/\Reps K G xs vs
 |.m kvs,a=>∃ ws,H a=some (.dK ws)/\zA4 K G kvs ws
 |.t kvs,a=>∃ ws,H a=some (.dT ws)/\kvs.map (·.1)=ws.map (·.1)/\Reps K G (kvs.map (·.2)) (ws.map (·.2))
 |.ml kvs,a=>∃ ws,H a=some (.dK ws)/\kvs.map (·.1)=ws.map (·.1)/\yD K G H (kvs.map (·.2)) (ws.map (·.2))
 |.tl kvs,a=>∃ ws,H a=some (.dT ws)/\kvs.map (·.1)=ws.map (·.1)/\yD K G H (kvs.map (·.2)) (ws.map (·.2))
noncomputable def zK8:Fl->V->Prop
 |.v d,u=>Rep K G d u
 |.f x,u=>∃ a,u = .ref a/\zGS K G H x a
noncomputable def zLl:Ob->Addr->Prop
 |.p f,a=>zGS K G H f a
 |.ins C fs,a=>∃ dx ws,H a=some (.ins C dx ws)/\H dx=some (.own a)/\(∀ q∈fs,∃ u,ws.lookup q.1=some u/\zK8 K G H q.2 u)/\(∀ x,fs.lookup x=none->ws.lookup x=none)/\ws.length<=fs.length
end
section
variable {K:Fg} {G G' H H':Hp}
theorem yD.there:∀ {xs:List (List D)} {vs:List V},yD K G H xs vs->∀ b,.ref b∈vs->∃ o,H b=some o
 | [],_,h,b,m=>by simp only [yD] at h;subst h;cases m
 |x::xs,_,h,b,m=>by
  simp only [yD] at h
  obtain ⟨c,us,t,rfl,e,r,l⟩:=h
  rcases zUg.mp m with z|m
  ·cases z;exact ⟨_,e⟩
  ·exact yD.there l b m
theorem yD.same (g:zi G G'):∀ {xs:List (List D)} {vs:List V},yD K G H xs vs->(∀ b,.ref b∈vs->∀ o,H b=some o->H' b=some o)->yD K G' H' xs vs
 | [],_,h,_=>by simpa only [yD] using h
 |x::xs,_,h,m=>by
  simp only [yD] at h ⊢
  obtain ⟨c,us,t,rfl,e,r,l⟩:=h
  exact ⟨c,us,t,rfl,m c (zUd ..) _ e,Reps.mono g _ _ r,yD.same g l λb z=>m b (zUY _ z)⟩
theorem zGS.head {f:Fd} {a:Addr}:a∈fpF H f a:=by cases f<;>simp [fpF]
theorem zGS.there {f:Fd} {a:Addr} (h:zGS K G H f a):∀ c∈fpF H f a,∃ o,H c=some o:=by
 intro c m
 cases f with
 |l xs=>obtain ⟨vs,e,_⟩:=h;simp only [fpF,zUf] at m;subst m;exact ⟨_,e⟩
 |m xs=>obtain ⟨vs,e,_⟩:=h;simp only [fpF,zUf] at m;subst m;exact ⟨_,e⟩
 |t xs=>obtain ⟨vs,e,_⟩:=h;simp only [fpF,zUf] at m;subst m;exact ⟨_,e⟩
 |ml xs=>
  obtain ⟨ws,e,_,l⟩:=h
  rcases zUg.mp m with z|m
  ·subst z;exact ⟨_,e⟩
  ·rw [e] at m;exact l.there c (qG.mp m)
 |tl xs=>
  obtain ⟨ws,e,_,l⟩:=h
  rcases zUg.mp m with z|m
  ·subst z;exact ⟨_,e⟩
  ·rw [e] at m;exact l.there c (qG.mp m)
theorem zGS.same {f:Fd} {a:Addr} (g:zi G G') (h:zGS K G H f a) (k:∀ c∈fpF H f a,∀ o,H c=some o->H' c=some o):zGS K G' H' f a/\fpF H' f a=fpF H f a:=by
 cases f with
 |l xs=>obtain ⟨vs,e,r⟩:=h;exact ⟨⟨vs,k a zGS.head _ e,Reps.mono g _ _ r⟩,rfl⟩
 |m xs=>obtain ⟨vs,e,r⟩:=h;exact ⟨⟨vs,k a zGS.head _ e,r.mono g⟩,rfl⟩
 |t xs=>obtain ⟨vs,e,q,r⟩:=h;exact ⟨⟨vs,k a zGS.head _ e,q,Reps.mono g _ _ r⟩,rfl⟩
 |ml xs=>
  obtain ⟨ws,e,q,l⟩:=h
  have e':=k a zGS.head _ e
  refine ⟨⟨ws,e',q,l.same g λb m o z=>k b ?_ o z⟩,by simp only [fpF];rw [e,e']⟩
  simp only [fpF];rw [e];exact zUY _ (qG.mpr m)
 |tl xs=>
  obtain ⟨ws,e,q,l⟩:=h
  have e':=k a zGS.head _ e
  refine ⟨⟨ws,e',q,l.same g λb m o z=>k b ?_ o z⟩,by simp only [fpF];rw [e,e']⟩
  simp only [fpF];rw [e];exact zUY _ (qG.mpr m)
theorem zK8.there {f:Fl} {u:V} (h:zK8 K G H f u):∀ c∈fpL H f u,∃ o,H c=some o:=by
 intro c m
 cases f with
 |v d=>cases u<;>cases m
 |f x=>obtain ⟨a,rfl,r⟩:=h;exact r.there c m
theorem zK8.same {f:Fl} {u:V} (g:zi G G') (h:zK8 K G H f u) (k:∀ c∈fpL H f u,∀ o,H c=some o->H' c=some o):zK8 K G' H' f u/\fpL H' f u=fpL H f u:=by
 cases f with
 |v d=>exact ⟨Rep.mono g _ _ h,by cases u<;>rfl⟩
 |f x=>obtain ⟨a,rfl,r⟩:=h;exact ⟨⟨a,rfl,(r.same g k).1⟩,(r.same g k).2⟩
theorem zDU {fs:List (Str×Fl)} {ws:List (Str×V)} {q:Str×Fl} {u:V} {c:Addr} (hq:q∈fs) (hu:ws.lookup q.1=some u) (hc:c∈fpL H q.2 u):c∈fpW H fs ws:=
 zVv.mpr ⟨q,hq,by rw [hu];exact hc⟩
theorem zGT {fs:List (Str×Fl)} {ws:List (Str×V)}:∀ (k:∀ q∈fs,∃ u,ws.lookup q.1=some u/\fpL H' q.2 u=fpL H q.2 u),fpW H' fs ws=fpW H fs ws:=by
 induction fs with
 |nil=>intro _;rfl
 |cons q fs ih=>
  intro k
  obtain ⟨u,e,z⟩:=k q (zUd ..)
  have:=ih λp m=>k p (zUY _ m)
  unfold fpW at this ⊢
  rw [zVI,zVI,this,e]
  simp only [z]
theorem zLl.head {o:Ob} {a:Addr}:a∈fpO H o a:=by
 cases o with
 |p f=>exact zGS.head
 |ins C fs=>exact zUd ..
theorem zLl.there {o:Ob} {a:Addr} (h:zLl K G H o a):∀ c∈fpO H o a,∃ u,H c=some u:=by
 cases o with
 |p f=>exact zGS.there h
 |ins C fs=>
  obtain ⟨dx,ws,e1,e2,e3,_⟩:=h
  intro c m
  rcases zUg.mp m with z|m
  ·subst z;exact ⟨_,e1⟩
  ·rw [e1] at m
   rcases zUg.mp m with z|m
   ·subst z;exact ⟨_,e2⟩
   ·obtain ⟨q,hq,m⟩:=zVv.mp m
    obtain ⟨u,e,r⟩:=e3 q hq
    rw [e] at m
    exact r.there c m
theorem zLl.same {o:Ob} {a:Addr} (g:zi G G') (h:zLl K G H o a) (k:∀ c∈fpO H o a,∀ u,H c=some u->H' c=some u):zLl K G' H' o a/\fpO H' o a=fpO H o a:=by
 cases o with
 |p f=>exact zGS.same g h k
 |ins C fs=>
  obtain ⟨dx,ws,e1,e2,e3,e4⟩:=h
  have e1':=k a zLl.head _ e1
  have sub:∀ c∈dx::fpW H fs ws,∀ u,H c=some u->H' c=some u:=λc m=>k c (by simp only [fpO];rw [e1];exact zUY _ m)
  have fl:∀ q∈fs,∃ u,ws.lookup q.1=some u/\zK8 K G' H' q.2 u/\fpL H' q.2 u=fpL H q.2 u:=λq hq=>by
   obtain ⟨u,e,r⟩:=e3 q hq
   exact ⟨u,e,r.same g λc m=>sub c (zUY _ (zDU hq e m))⟩
  refine ⟨⟨dx,ws,e1',sub dx (zUd ..) _ e2,λq hq=>?_,e4⟩,?_⟩
  ·obtain ⟨u,e,r,_⟩:=fl q hq;exact ⟨u,e,r⟩
  ·simp only [fpO]
   rw [e1,e1']
   simp only [inI]
   rw [zGT λq hq=>let ⟨u,e,_,z⟩:=fl q hq;⟨u,e,z⟩]
end
inductive Sl where
 |un|v (d:D)|l (xs:List D)|m (kvs:List (Key×D))
  |o (c:Option Addr) (x:Ob)|b (c:Addr) (x:Ob)
noncomputable def Sl.isOwn:Sl->Bool
 |.l _=>true
 |.m _=>true
 |.o _ _=>true
 |_=>false
noncomputable def Sl.isPl:Sl->Bool
 |.l _=>true
 |.m _=>true
 |_=>false
noncomputable def Sl.isObj:Sl->Bool
 |.l _=>true
 |.m _=>true
 |.o _ _=>true
 |.b _ _=>true
 |_=>false
theorem Sl.own_of_pl {s:Sl} (h:s.isPl=true):s.isOwn=true:=by cases s<;>first|rfl|cases h
theorem Sl.obj_of_own {s:Sl} (h:s.isOwn=true):s.isObj=true:=by cases s<;>first|rfl|cases h
abbrev Rho:=List Sl
abbrev ROl:=Rho->Option (List D)
abbrev ROd:=Rho->Option D
abbrev ROb:=Rho->Option Bool
noncomputable def fpS (H:Hp):Sl->Addr->List Addr
 |.l _,a=>[a]
 |.m _,a=>[a]
 |.o _ x,a=>fpO H x a
 |.b _ x,a=>fpO H x a
 |_,_=>[]
noncomputable def zJX (K:Fg) (G H:Hp):Sl->Addr->Prop
 |.l xs,a=>∃ vs,H a=some (.lst vs)/\Reps K G xs vs
 |.m kvs,a=>∃ ws,H a=some (.dK ws)/\zA4 K G kvs ws
 |.o c x,a=>(zLl K G H x a/\(fpO H x a).Nodup)/\∀ c',c=some c'->a=c'
 |.b c x,a=>(zLl K G H x a/\(fpO H x a).Nodup)/\a=c
 |_,_=>False
section
variable {K:Fg} {G G' H H':Hp} {s:Sl} {a:Addr}
theorem zHT (h:s.isPl=true):fpS H s a = [a]:=by cases s<;>first|rfl|cases h
theorem zBN (h:s.isObj=true):a∈fpS H s a:=by
 cases s<;>first|(cases h;done)|exact zUf.mpr rfl|exact zLl.head
theorem zJX.there (h:zJX K G H s a):∀ c∈fpS H s a,∃ u,H c=some u:=by
 cases s with
 |un=>cases h
 |v d=>cases h
 |l xs=>obtain ⟨vs,e,_⟩:=h;intro c m;cases zUf.mp m;exact ⟨_,e⟩
 |m xs=>obtain ⟨vs,e,_⟩:=h;intro c m;cases zUf.mp m;exact ⟨_,e⟩
 |o c x=>exact h.1.1.there
 |b c x=>exact h.1.1.there
theorem zJX.same (g:zi G G') (h:zJX K G H s a) (k:∀ c∈fpS H s a,∀ u,H c=some u->H' c=some u):zJX K G' H' s a/\fpS H' s a=fpS H s a:=by
 cases s with
 |un=>cases h
 |v d=>cases h
 |l xs=>obtain ⟨vs,e,r⟩:=h;exact ⟨⟨vs,k a (zUf.mpr rfl) _ e,Reps.mono g _ _ r⟩,rfl⟩
 |m xs=>obtain ⟨vs,e,r⟩:=h;exact ⟨⟨vs,k a (zUf.mpr rfl) _ e,r.mono g⟩,rfl⟩
 |o c x=>have q:=h.1.1.same g k;exact ⟨⟨⟨q.1,by rw [q.2];exact h.1.2⟩,h.2⟩,q.2⟩
 |b c x=>have q:=h.1.1.same g k;exact ⟨⟨⟨q.1,by rw [q.2];exact h.1.2⟩,h.2⟩,q.2⟩
end
structure Er (K:Fg) (G H:Hp) (ρ:Rho) (σ:L2.St):Prop where
 len:ρ.length=σ.length
 val:∀ (i:Nat) (d:D),ρ[i]?=some (.v d)->∃ v,σ[i]?=some (some v)/\Rep K G d v
 slot:∀ (i:Nat) (s:Sl),ρ[i]?=some s->s.isObj=true->∃ a,σ[i]?=some (some (.ref a))/\zJX K G H s a/\∀ c∈fpS H s a,G c=none
 sep:∀ (i j:Nat) (s t:Sl) (a b:Addr),i≠j->ρ[i]?=some s->s.isOwn=true->ρ[j]?=some t->t.isObj=true->σ[i]?=some (some (.ref a))->σ[j]?=some (some (.ref b))->∀ c∈fpS H s a,c∉fpS H t b
section
variable {K:Fg} {G H G' H':Hp} {ρ:Rho} {σ:L2.St}
theorem Er.own (e:Er K G H ρ σ) (i:Nat) (xs:List D) (h:ρ[i]?=some (.l xs)):∃ a vs,σ[i]?=some (some (.ref a))/\G a=none/\H a=some (.lst vs)/\Reps K G xs vs:=by
 obtain ⟨a,h1,⟨vs,h2,h3⟩,h4⟩:=e.slot i _ h rfl
 exact ⟨a,vs,h1,h4 a (zBN rfl),h2,h3⟩
theorem Er.dic (e:Er K G H ρ σ) (i:Nat) (kvs:List (Key×D)) (h:ρ[i]?=some (.m kvs)):∃ a ws,σ[i]?=some (some (.ref a))/\G a=none/\H a=some (.dK ws)/\zA4 K G kvs ws:=by
 obtain ⟨a,h1,⟨vs,h2,h3⟩,h4⟩:=e.slot i _ h rfl
 exact ⟨a,vs,h1,h4 a (zBN rfl),h2,h3⟩
theorem Er.ownAt (e:Er K G H ρ σ) {i:Nat} {s:Sl} (h:ρ[i]?=some s) (o:s.isOwn=true):∃ a u,σ[i]?=some (some (.ref a))/\G a=none/\H a=some u:=by
 obtain ⟨a,h1,h2,h3⟩:=e.slot i s h (Sl.obj_of_own o)
 obtain ⟨u,q⟩:=h2.there a (zBN (Sl.obj_of_own o))
 exact ⟨a,u,h1,h3 a (zBN (Sl.obj_of_own o)),q⟩
theorem Er.hop (e:Er K G H ρ σ) (g:zi G G') (k:∀ (i:Nat) (s:Sl) (a:Addr),ρ[i]?=some s->s.isObj=true->σ[i]?=some (some (.ref a))->∀ c∈fpS H s a,(∀ u,H c=some u->H' c=some u)/\G' c=none):Er K G' H' ρ σ:=by
 have all:∀ (i:Nat) (s:Sl) (a:Addr),ρ[i]?=some s->s.isObj=true->σ[i]?=some (some (.ref a))->zJX K G' H' s a/\fpS H' s a=fpS H s a:=λi s a h o q=>by
  obtain ⟨a',h1,h2,_⟩:=e.slot i s h o
  rw [q] at h1;cases h1
  exact h2.same g λc m=>(k i s a h o q c m).1
 refine ⟨e.len,λi d h=>let ⟨v,a,b⟩:=e.val i d h;⟨v,a,Rep.mono g d v b⟩,λi s h o=>?_,λi j s t a b ne h1 o1 h2 o2 q1 q2=>?_⟩
 ·obtain ⟨a,h1,h2,h3⟩:=e.slot i s h o
  exact ⟨a,h1,(all i s a h o h1).1,by rw [(all i s a h o h1).2];exact λc m=>(k i s a h o h1 c m).2⟩
 ·rw [(all i s a h1 (Sl.obj_of_own o1) q1).2,(all j t b h2 o2 q2).2]
  exact e.sep i j s t a b ne h1 o1 h2 o2 q1 q2
theorem Er.there (e:Er K G H ρ σ) {i:Nat} {s:Sl} {a:Addr} (h:ρ[i]?=some s) (o:s.isObj=true) (q:σ[i]?=some (some (.ref a))) {c:Addr} (m:c∈fpS H s a):(∃ u,H c=some u)/\G c=none:=by
 obtain ⟨a',h1,h2,h3⟩:=e.slot i s h o
 rw [q] at h1;cases h1
 exact ⟨h2.there c m,h3 c m⟩
theorem Er.step (e:Er K G H ρ σ) (t:zd G H G' H'):Er K G' H' ρ σ:=e.hop t.g λi s a h o q c m=>by
 obtain ⟨⟨u,h1⟩,h2⟩:=e.there h o q m
 refine ⟨λu z=>t.h _ _ z,?_⟩
 cases z:G' c with
 |none=>rfl
 |some o=>have:=t.f c o z h2;rw [h1] at this;cases this
end
structure Bs (G0 H0 G H:Hp):Prop where
 gh:zi G H
 gg:zi G0 G
 hh:zi H0 H
 fr:∀ b o,G b=some o->G0 b=none->H0 b=none
theorem Bs.step {G0 H0 G H G' H':Hp} (b:Bs G0 H0 G H) (t:zd G H G' H'):Bs G0 H0 G' H':=
 ⟨t.s,b.gg.trans t.g,b.hh.trans t.h,λc o e n=>by
  cases q:G c with
  |some o'=>exact b.fr c o' q n
  |none=>exact b.hh.free (t.f c o e q)⟩
structure StR (K:Fg) (G0 H0 G H:Hp) (ρ:Rho) (σ:L2.St):Prop where
 er:Er K G H ρ σ
 bs:Bs G0 H0 G H
 ows:∀ (i:Nat) (s:Sl) (a:Addr),ρ[i]?=some s->s.isOwn=true->σ[i]?=some (some (.ref a))->∀ c∈fpS H s a,H0 c=none
section
variable {K:Fg} {G0 H0 G H G' H':Hp} {ρ:Rho} {σ:L2.St}
theorem StR.ow (s:StR K G0 H0 G H ρ σ) (i:Nat) (u:Sl) (a:Addr) (h:ρ[i]?=some u) (o:u.isOwn=true) (q:σ[i]?=some (some (.ref a))):H0 a=none:=s.ows i u a h o q a (zBN (Sl.obj_of_own o))
theorem Er.fp (e:Er K G H ρ σ) (t:zi H H') {i:Nat} {u:Sl} {a:Addr} (h:ρ[i]?=some u) (o:u.isObj=true) (q:σ[i]?=some (some (.ref a))):fpS H' u a=fpS H u a:=by
 obtain ⟨a',h1,h2,_⟩:=e.slot i u h o
 rw [q] at h1;cases h1
 exact (h2.same (zi.refl _) λc _ v z=>t _ _ z).2
theorem StR.step (s:StR K G0 H0 G H ρ σ) (t:zd G H G' H'):StR K G0 H0 G' H' ρ σ:=
 ⟨s.er.step t,s.bs.step t,λi u a h o q=>by rw [s.er.fp t.h h (Sl.obj_of_own o) q];exact s.ows i u a h o q⟩
end
theorem zu {α:Type} {l:List α} {i j:Nat} {x y:α} (h:(l.set i x)[j]?=some y):(j=i/\y=x/\i<l.length)\/(j≠i/\l[j]?=some y):=by
 by_cases e:j=i
 ·subst e
  have hl:j<l.length:=by
   have:=(zUs.mp h).1
   simpa using this
  rw [zVG hl] at h
  cases h
  exact .inl ⟨rfl,rfl,hl⟩
 ·rw [zU2 (Ne.symm e)] at h
  exact .inr ⟨e,h⟩
section
variable {K:Fg} {G0 H0 G H G' H':Hp} {ρ:Rho} {σ:L2.St} {i:Nat}
theorem StR.setV {d:D} {v:V} (s:StR K G0 H0 G H ρ σ) (r:Rep K G d v):StR K G0 H0 G H (ρ.set i (.v d)) (σ.set i (some v)) where
 bs:=s.bs
 er:={
  len:=by simpa using s.er.len
  val:=λj d' h=>by
   rcases zu h with ⟨rfl,e,hl⟩|⟨hj,h⟩
   ·cases e
    exact ⟨v,zVG (by rw [<- s.er.len];exact hl),r⟩
   ·rw [zU2 (Ne.symm hj)];exact s.er.val j d' h
  slot:=λj u h o=>by
   rcases zu h with ⟨rfl,e,hl⟩|⟨hj,h⟩
   ·subst e;cases o
   ·rw [zU2 (Ne.symm hj)];exact s.er.slot j u h o
  sep:=λj k u t a b ne h1 o1 h2 o2 q1 q2=>by
   rcases zu h1 with ⟨rfl,e,_⟩|⟨hj,h1⟩
   ·subst e;cases o1
   rcases zu h2 with ⟨rfl,e,_⟩|⟨hk,h2⟩
   ·subst e;cases o2
   rw [zU2 (Ne.symm hj)] at q1
   rw [zU2 (Ne.symm hk)] at q2
   exact s.er.sep j k u t a b ne h1 o1 h2 o2 q1 q2 }
 ows:=λj u a h o q=>by
  rcases zu h with ⟨rfl,e,_⟩|⟨hj,h⟩
  ·subst e;cases o
  ·rw [zU2 (Ne.symm hj)] at q;exact s.ows j u a h o q
theorem StR.setNew {a:Addr} {w:Sl} (s:StR K G0 H0 G H ρ σ) (t:zd G H G' H') (hw:w.isOwn=true) (hr:zJX K G' H' w a) (hn:∀ c∈fpS H' w a,H c=none/\G' c=none) :
  StR K G0 H0 G' H' (ρ.set i w) (σ.set i (some (.ref a))):=by
 have s':=s.step t
 have old:∀ {j:Nat} {u:Sl} {b c:Addr},ρ[j]?=some u->u.isObj=true->σ[j]?=some (some (.ref b))->c∈fpS H' u b->c∉fpS H' w a:=λ{j u b c} h o q m z=>by
  rw [s.er.fp t.h h o q] at m
  obtain ⟨⟨x,e⟩,_⟩:=s.er.there h o q m
  rw [(hn c z).1] at e;cases e
 refine ⟨⟨by simpa using s.er.len,λj d' h=>?_,λj u h o=>?_,λj k u v b b' ne h1 o1 h2 o2 q1 q2=>?_⟩,s'.bs,λj u b h o q=>?_⟩
 ·rcases zu h with ⟨rfl,e,_⟩|⟨hj,h⟩
  ·subst e;cases hw
  ·rw [zU2 (Ne.symm hj)];exact s'.er.val j d' h
 ·rcases zu h with ⟨rfl,e,hi⟩|⟨hj,h⟩
  ·subst e
   exact ⟨a,zVG (by rw [<- s.er.len];exact hi),hr,λc m=>(hn c m).2⟩
  ·rw [zU2 (Ne.symm hj)];exact s'.er.slot j u h o
 ·rcases zu h1 with ⟨ej,e,hi⟩|⟨hj,h1'⟩
  ·rw [ej,zVG (by rw [<- s.er.len];exact hi)] at q1
   cases q1
   subst e
   rcases zu h2 with ⟨ek,_,_⟩|⟨hk,h2'⟩
   ·exact absurd (ej.trans ek.symm) ne
   ·rw [zU2 (Ne.symm hk)] at q2
    exact λc m z=>old h2' o2 q2 z m
  ·rw [zU2 (Ne.symm hj)] at q1
   rcases zu h2 with ⟨ek,e,hi⟩|⟨hk,h2'⟩
   ·rw [ek,zVG (by rw [<- s.er.len];exact hi)] at q2
    cases q2
    subst e
    exact λc m z=>old h1' (Sl.obj_of_own o1) q1 m z
   ·rw [zU2 (Ne.symm hk)] at q2
    exact s'.er.sep j k u v b b' ne h1' o1 h2' o2 q1 q2
 ·rcases zu h with ⟨rfl,e,hi⟩|⟨hj,h⟩
  ·rw [zVG (by rw [<- s.er.len];exact hi)] at q
   cases q
   subst e
   exact λc m=>s.bs.hh.free (hn c m).1
  ·rw [zU2 (Ne.symm hj)] at q;exact s'.ows j u b h o q
theorem StR.setOwn {a:Addr} {w:Sl} (s:StR K G0 H0 G H ρ σ) (t:zd G H G' H') (hw:w.isPl=true) (hn:H a=none) (hg:G' a=none)
  (hl:∀ xs,w = .l xs->∃ vs,H' a=some (.lst vs)/\Reps K G' xs vs) (hm:∀ kvs,w = .m kvs->∃ ws,H' a=some (.dK ws)/\zA4 K G' kvs ws) :
  StR K G0 H0 G' H' (ρ.set i w) (σ.set i (some (.ref a))):=by
 refine s.setNew t (Sl.own_of_pl hw) ?_ λc m=>?_
 ·cases w with
  |l xs=>exact hl xs rfl
  |m xs=>exact hm xs rfl
  |_=>cases hw
 ·rw [zHT hw] at m
  cases zUf.mp m
  exact ⟨hn,hg⟩
theorem StR.mutG {a:Addr} {u w:Sl} (s:StR K G0 H0 G H ρ σ) (hu:ρ[i]?=some u) (ou:u.isOwn=true) (hw:w.isOwn=true) (ha:σ[i]?=some (some (.ref a)))
  (hG:zi G G') (hGH:zi G' H') (hf:∀ b o,G' b=some o->G b=none->H b=none\/b∈fpS H u a) (hH:∀ b o,H b=some o->b∉fpS H u a->H' b=some o)
  (hr:zJX K G' H' w a) (hn:∀ c∈fpS H' w a,(c∈fpS H u a\/H c=none)/\G' c=none):StR K G0 H0 G' H' (ρ.set i w) σ:=by
 have hi:i<ρ.length:=(zUs.mp hu).1
 have off:∀ {j:Nat} {u':Sl} {b c:Addr},j≠i->ρ[j]?=some u'->u'.isObj=true->σ[j]?=some (some (.ref b))->c∈fpS H u' b->c∉fpS H u a:=λ{j u' b c} ne h o q m z=>
  s.er.sep i j u u' a b (Ne.symm ne) hu ou h o ha q c z m
 have all:∀ {j:Nat} {u':Sl} {b:Addr},j≠i->ρ[j]?=some u'->u'.isObj=true->σ[j]?=some (some (.ref b))->(zJX K G' H' u' b/\fpS H' u' b=fpS H u' b)/\∀ c∈fpS H u' b,G' c=none:=λ{j u' b} ne h o q=>by
  obtain ⟨b',h1,h2,h3⟩:=s.er.slot j u' h o
  rw [q] at h1;cases h1
  refine ⟨h2.same hG λc m v z=>hH c v z (off ne h o q m),λc m=>?_⟩
  cases z:G' c with
  |none=>rfl
  |some x=>
   rcases hf c x z (h3 c m) with y|y
   ·obtain ⟨v,e⟩:=h2.there c m;rw [y] at e;cases e
   ·exact absurd y (off ne h o q m)
 have h0:∀ c∈fpS H u a,H0 c=none:=s.ows i u a hu ou ha
 refine ⟨⟨by simpa using s.er.len,λj d' h=>?_,λj v h o=>?_,λj k v v' b b' ne h1 o1 h2 o2 q1 q2=>?_⟩,⟨hGH,s.bs.gg.trans hG,λb x e=>?_,λb x e n=>?_⟩,λj v b h o q=>?_⟩
 ·rcases zu h with ⟨rfl,e,_⟩|⟨hj,h⟩
  ·subst e;cases hw
  ·obtain ⟨v,e1,e2⟩:=s.er.val j d' h;exact ⟨v,e1,Rep.mono hG _ _ e2⟩
 ·rcases zu h with ⟨rfl,e,_⟩|⟨hj,h⟩
  ·subst e;exact ⟨a,ha,hr,λc m=>(hn c m).2⟩
  ·obtain ⟨b,h1,_,_⟩:=s.er.slot j v h o
   have q:=all hj h o h1
   exact ⟨b,h1,q.1.1,by rw [q.1.2];exact q.2⟩
 ·have new:∀ {k:Nat} {v':Sl} {b' c:Addr},k≠i->ρ[k]?=some v'->v'.isObj=true->σ[k]?=some (some (.ref b'))->c∈fpS H' w a->c∉fpS H' v' b':=λ{k v' b' c} nk h o q m z=>by
   rw [(all nk h o q).1.2] at z
   rcases (hn c m).1 with y|y
   ·exact off nk h o q z y
   ·obtain ⟨⟨x,e⟩,_⟩:=s.er.there h o q z;rw [y] at e;cases e
  rcases zu h1 with ⟨ej,e,_⟩|⟨hj,h1'⟩
  ·subst ej;subst e
   rw [ha] at q1;cases q1
   rcases zu h2 with ⟨ek,_,_⟩|⟨hk,h2'⟩
   ·exact absurd ek.symm ne
   ·exact λc m=>new hk h2' o2 q2 m
  ·rcases zu h2 with ⟨ek,e,_⟩|⟨hk,h2'⟩
   ·subst ek;subst e
    rw [ha] at q2;cases q2
    exact λc m z=>new hj h1' (Sl.obj_of_own o1) q1 z m
   ·rw [(all hj h1' (Sl.obj_of_own o1) q1).1.2,(all hk h2' o2 q2).1.2]
    exact s.er.sep j k v v' b b' ne h1' o1 h2' o2 q1 q2
 ·exact hH b x (s.bs.hh b x e) λz=>by rw [h0 b z] at e;cases e
 ·cases q:G b with
  |some o'=>exact s.bs.fr b o' q n
  |none=>
   rcases hf b x e q with y|y
   ·exact s.bs.hh.free y
   ·exact h0 b y
 ·rcases zu h with ⟨rfl,e,_⟩|⟨hj,h⟩
  ·subst e
   rw [ha] at q;cases q
   intro c m
   rcases (hn c m).1 with y|y
   ·exact h0 c y
   ·exact s.bs.hh.free y
  ·rw [(all hj h (Sl.obj_of_own o) q).1.2];exact s.ows j v b h o q
theorem StR.mut {a:Addr} {u w:Sl} {o:HO} (s:StR K G0 H0 G H ρ σ) (hu:ρ[i]?=some u) (ou:u.isPl=true) (hw:w.isPl=true) (ha:σ[i]?=some (some (.ref a)))
  (hl:∀ xs,w = .l xs->∃ vs,o = .lst vs/\Reps K G xs vs) (hm:∀ kvs,w = .m kvs->∃ ws,o = .dK ws/\zA4 K G kvs ws) :
  StR K G0 H0 G (upd H a o) (ρ.set i w) σ:=by
 obtain ⟨a',u',e1,e2,e3⟩:=s.er.ownAt hu (Sl.own_of_pl ou)
 rw [ha] at e1;cases e1
 refine s.mutG hu (Sl.own_of_pl ou) (Sl.own_of_pl hw) ha (zi.refl _) (λb x e=>?_) (λb x e n=>by rw [n] at e;cases e) (λb x e n=>?_) ?_ λc m=>?_
 ·rw [zK (λz=>by rw [z,e2] at e;cases e)];exact s.bs.gh b x e
 ·rw [zHT ou] at n
  rw [zK (λz=>n (zUf.mpr z))];exact e
 ·cases w with
  |l xs=>obtain ⟨vs,h1,h2⟩:=hl xs rfl;exact ⟨vs,by rw [zM,h1],h2⟩
  |m xs=>obtain ⟨vs,h1,h2⟩:=hm xs rfl;exact ⟨vs,by rw [zM,h1],h2⟩
  |_=>cases hw
 ·rw [zHT hw] at m
  cases zUf.mp m
  exact ⟨.inl (by rw [zHT ou];exact zUf.mpr rfl),e2⟩
end
noncomputable def frz (i:Nat) (ρ:Rho):Rho:=match ρ[i]? with
 |some (.l xs)=>ρ.set i (.v (.lst xs))
 |_=>ρ
section
variable {K:Fg} {G0 H0 G H G':Hp} {ρ:Rho} {σ:L2.St} {i:Nat}
theorem StR.frzG {a:Addr} {u:Sl} {d:D} (s:StR K G0 H0 G H ρ σ) (hu:ρ[i]?=some u) (ou:u.isOwn=true) (ha:σ[i]?=some (some (.ref a)))
  (hG:zi G G') (hGH:zi G' H) (hf:∀ b o,G' b=some o->G b=none->b∈fpS H u a) (hr:Rep K G' d (.ref a)):StR K G0 H0 G' H (ρ.set i (.v d)) σ:=by
 have off:∀ {j:Nat} {u':Sl} {b c:Addr},j≠i->ρ[j]?=some u'->u'.isObj=true->σ[j]?=some (some (.ref b))->c∈fpS H u' b->c∉fpS H u a:=λ{j u' b c} ne h o q m z=>
  s.er.sep i j u u' a b (Ne.symm ne) hu ou h o ha q c z m
 refine ⟨⟨by simpa using s.er.len,λj d' h=>?_,λj v h o=>?_,λj k v v' b b' ne h1 o1 h2 o2 q1 q2=>?_⟩,⟨hGH,s.bs.gg.trans hG,s.bs.hh,λb x e n=>?_⟩,λj v b h o q=>?_⟩
 ·rcases zu h with ⟨rfl,e,_⟩|⟨hj,h⟩
  ·cases e;exact ⟨_,ha,hr⟩
  ·obtain ⟨v,e1,e2⟩:=s.er.val j d' h;exact ⟨v,e1,Rep.mono hG _ _ e2⟩
 ·rcases zu h with ⟨rfl,e,_⟩|⟨hj,h⟩
  ·subst e;cases o
  ·obtain ⟨b,h1,h2,h3⟩:=s.er.slot j v h o
   refine ⟨b,h1,(h2.same hG λc m x z=>z).1,λc m=>?_⟩
   cases z:G' c with
   |none=>rfl
   |some x=>exact absurd (hf c x z (h3 c m)) (off hj h o h1 m)
 ·rcases zu h1 with ⟨rfl,e,_⟩|⟨hj,h1⟩
  ·subst e;cases o1
  rcases zu h2 with ⟨rfl,e,_⟩|⟨hk,h2⟩
  ·subst e;cases o2
  exact s.er.sep j k v v' b b' ne h1 o1 h2 o2 q1 q2
 ·cases q:G b with
  |some o'=>exact s.bs.fr b o' q n
  |none=>exact s.ows i u a hu ou ha b (hf b x e q)
 ·rcases zu h with ⟨rfl,e,_⟩|⟨hj,h⟩
  ·subst e;cases o
  ·exact s.ows j v b h o q
theorem StR.frz (i:Nat) (s:StR K G0 H0 G H ρ σ):∃ G',zi G G'/\StR K G0 H0 G' H (RD.frz i ρ) σ:=by
 have up:∀ {a:Addr} {o:HO} {u:Sl},u.isPl=true->H a=some o->G a=none->zi (upd G a o) H/\∀ b x,upd G a o b=some x->G b=none->b∈fpS H u a:=λ{a o u} hp h n=>by
  refine ⟨λb x e=>?_,λb x e k=>?_⟩
  ·by_cases z:b=a
   ·subst z;rw [zM] at e;cases e;exact h
   ·rw [zK z] at e;exact s.bs.gh b x e
  ·by_cases z:b=a
   ·subst z;rw [zHT hp];exact zUf.mpr rfl
   ·rw [zK z,k] at e;cases e
 unfold RD.frz
 split
 ·rename_i xs h
  obtain ⟨a,vs,h1,h2,h3,h4⟩:=s.er.own i xs h
  have hG:zi G (upd G a (.lst vs)):=yj h2
  exact ⟨_,hG,s.frzG h rfl h1 hG (up (u:=.l xs) rfl h3 h2).1 (up (u:=.l xs) rfl h3 h2).2 (zAS.mpr ⟨a,vs,rfl,SqL.of zM,Reps.mono hG _ _ h4⟩)⟩
 ·exact ⟨G,zi.refl _,s⟩
end
inductive zCC (K:Fg) (G H:Hp):D->V->Prop where
 |fr {d:D} {v:V}:Rep K G d v->zCC K G H d v
 |ow {xs:List D} {a:Addr} {vs:List V}:G a=none->H a=some (.lst vs)->Reps K G xs vs->zCC K G H (.lst xs) (.ref a)
theorem zCC.step {K:Fg} {G H G' H':Hp} {d:D} {v:V} (r:zCC K G H d v) (t:zd G H G' H'):zCC K G' H' d v:=by
 cases r with
 |fr r=>exact .fr (Rep.mono t.g _ _ r)
 |ow h1 h2 h3=>
  refine .ow ?_ (t.h _ _ h2) (Reps.mono t.g _ _ h3)
  rename_i a _
  cases q:G' a with
  |none=>rfl
  |some o=>have:=t.f a o q h1;rw [h2] at this;cases this
section
variable {K:Fg} {G H:Hp}
theorem zCC.list {xs:List D} {v:V} (r:zCC K G H (.lst xs) v) (s:zi G H):∃ a vs,v = .ref a/\SqL K H a vs/\Reps K G xs vs:=by
 cases r with
 |fr r=>obtain ⟨a,vs,e,q,t⟩:=zAS.mp r;exact ⟨a,vs,e,s.seq q,t⟩
 |ow h1 h2 h3=>exact ⟨_,_,rfl,SqL.of h2,h3⟩
theorem zCC.rep {d:D} {v:V} (r:zCC K G H d v) (h:∀ xs,d≠.lst xs):Rep K G d v:=by
 cases r with
 |fr r=>exact r
 |ow _ _ _=>exact absurd rfl (h _)
theorem zCC.int {i:Int} {v:V} (r:zCC K G H (.int i) v):v = .int i:=yC.mp (r.rep λ_ z=>by cases z)
theorem zCC.bl {b:Bool} {v:V} (r:zCC K G H (.bl b) v):v = .bl b:=yQ.mp (r.rep λ_ z=>by cases z)
theorem zCC.str {x:Str} {v:V} (r:zCC K G H (.str x) v):v = .str x:=zAR.mp (r.rep λ_ z=>by cases z)
theorem zCC.non {v:V} (r:zCC K G H .non v):v = .non:=zAQ.mp (r.rep λ_ z=>by cases z)
theorem zCC.tup {xs:List D} {v:V} (r:zCC K G H (.tup xs) v) (s:zi G H):∃ a vs,v = .ref a/\SqT K H a vs/\Reps K G xs vs:=by
 obtain ⟨a,vs,e,q,t⟩:=zCc (r.rep λ_ z=>by cases z)
 exact ⟨a,vs,e,qT s q,t⟩
end
noncomputable def tE (K:Fg) (f:ROd):TE:=λσ H Q=>∃ G ρ d,zi G H/\Er K G H ρ σ/\f ρ=some d/\∀ v G' H',zd G H G' H'->Rep K G' d v->Q v H'
noncomputable def tR (K:Fg) (f:ROd):TE:=λσ H Q=>∃ G ρ d,zi G H/\Er K G H ρ σ/\f ρ=some d/\∀ v G' H',zd G H G' H'->zCC K G' H' d v->Q v H'
noncomputable def tF (K:Fg) (f:ROl):TE:=λσ H Q=>∃ G ρ xs,zi G H/\Er K G H ρ σ/\f ρ=some xs /\
 ∀ a vs G' H',zd G H G' H'->H a=none->G' a=none->H' a=some (.lst vs)->Reps K G' xs vs->Q (.ref a) H'
noncomputable def tTs (K:Fg) (f:ROb):TT:=λσ H Q=>∃ G ρ b,zi G H/\Er K G H ρ σ/\f ρ=some b/\∀ G' H',zd G H G' H'->Q b H'
noncomputable def tAs (K:Fg) (f:ROl):TA:=λσ H Q=>∃ G ρ ds,zi G H/\Er K G H ρ σ/\f ρ=some ds/\∀ vs G' H',zd G H G' H'->Reps K G' ds vs->Q vs H'
abbrev SE (X:Cx) (e:Expr) (f:ROd):Prop:=PE X e (tE X.K f)
abbrev SR (X:Cx) (e:Expr) (f:ROd):Prop:=PE X e (tR X.K f)
abbrev SF (X:Cx) (e:Expr) (f:ROl):Prop:=PE X e (tF X.K f)
abbrev SB (X:Cx) (e:Expr) (f:ROb):Prop:=PT X e (tTs X.K f)
structure SA (X:Cx) (es:List Expr) (f:ROl):Prop where
 pa:PA X es (tAs X.K f)
 len:∀ ρ ds,f ρ=some ds->ds.length=es.length
theorem zA7 {X:Cx} {e:Expr} {t t':TE} (h:PE X e t) (w:∀ σ H Q,t' σ H Q->t σ H Q):PE X e t':=λpins s σ H Q I q=>h pins s σ H Q I (w σ H Q q)
theorem zHU {X:Cx} {e:Expr} {t t':TT} (h:PT X e t) (w:∀ σ H Q,t' σ H Q->t σ H Q):PT X e t':=λpins s σ H Q I q=>h pins s σ H Q I (w σ H Q q)
theorem zNz {X:Cx} {e:List Expr} {t t':TA} (h:PA X e t) (w:∀ σ H Q,t' σ H Q->t σ H Q):PA X e t':=λpos pins s σ H Q I q=>h pos pins s σ H Q I (w σ H Q q)
theorem ym {X:Cx} {e:Stmt} {t t':TS} (h:PS X e t) (w:∀ Q σ H,t' Q σ H->t Q σ H):PS X e t':=λpins s σ H Q I q=>h pins s σ H Q I (w Q σ H q)
theorem zHV {X:Cx} {e:List Stmt} {t t':TS} (h:PSs X e t) (w:∀ Q σ H,t' Q σ H->t Q σ H):PSs X e t':=λpins s σ H Q I q=>h pins s σ H Q I (w Q σ H q)
section
variable {X:Cx} {e a b:Expr} {es:List Expr} {f g:ROd} {fl:ROl} {pos:Pos}
theorem zE (h:SE X e f):SR X e f:=zA7 h λσ H Q ⟨G,ρ,d,s,er,ef,k⟩=>⟨G,ρ,d,s,er,ef,λv G' H' t r=>k v G' H' t (.fr r)⟩
theorem zLm {G H G' H':Hp} {a:Addr} {vs:List V} (t:zd G H G' H') (h1:H a=none) (h2:G' a=none) (h3:H' a=some (.lst vs)):zd G H (upd G' a (.lst vs)) H':=
 ⟨t.g.trans (yj h2),t.h,λb u e=>by
  by_cases z:b=a
  ·subst z;rw [zM] at e;cases e;exact h3
  ·rw [zK z] at e;exact t.s b u e,λb u e n=>by
  by_cases z:b=a
  ·subst z;exact h1
  ·rw [zK z] at e;exact t.f b u e n⟩
theorem zg (h:SF X e fl):SE X e (λρ=>(fl ρ).map D.lst):=zA7 h λσ H Q=>by
 rintro ⟨G,ρ,d,s,er,ef,k⟩
 obtain ⟨xs,e1,rfl⟩:=zUZ.mp ef
 refine ⟨G,ρ,xs,s,er,e1,λa vs G' H' t h1 h2 h3 r=>?_⟩
 exact k (.ref a) (upd G' a (.lst vs)) H' (zLm t h1 h2 h3) (zAS.mpr ⟨a,vs,rfl,SqL.of zM,Reps.mono (yj h2) _ _ r⟩)
noncomputable def zNd (ρ:Rho) (i:Nat):Option D:=match ρ[i]? with
 |some (.v d)=>some d
 |_=>none
noncomputable def zQm (ρ:Rho) (i:Nat):Option D:=match ρ[i]? with
 |some (.v d)=>some d
 |some (.l xs)=>some (.lst xs)
 |_=>none
abbrev gV (i:Nat):Rho->Option D:=λρ=>zNd ρ i
abbrev gR (i:Nat):Rho->Option D:=λρ=>zQm ρ i
abbrev zR (n:Int):Rho->Option D:=λ_=>some (D.int n)
abbrev zN:Rho->Option (List D):=λ_=>some []
theorem zQn {ρ:Rho} {i:Nat} {d:D} (h:zNd ρ i=some d):ρ[i]?=some (.v d):=by
 unfold zNd at h
 split at h
 ·cases h;assumption
 ·cases h
theorem zQo {ρ:Rho} {i:Nat} {d:D} (h:zQm ρ i=some d):ρ[i]?=some (.v d)\/∃ xs,d = .lst xs/\ρ[i]?=some (.l xs):=by
 unfold zQm at h
 split at h
 ·cases h;left;assumption
 ·cases h;right;exact ⟨_,rfl,by assumption⟩
 ·cases h
theorem zD (i:Nat) (h:PE X e (zBi i)):SE X e (gV i):=zA7 h λσ H Q=>by
 rintro ⟨G,ρ,d,s,er,ef,k⟩
 obtain ⟨v,e1,r⟩:=er.val i d (zQn ef)
 exact ⟨v,e1,k v G H (zd.refl s) r⟩
theorem zC (i:Nat) (h:PE X e (zBi i)):SR X e (gR i):=zA7 h λσ H Q=>by
 rintro ⟨G,ρ,d,s,er,ef,k⟩
 rcases zQo ef with ef1|⟨xs,rfl,ef1⟩
 ·obtain ⟨v,e1,r⟩:=er.val i d ef1
  exact ⟨v,e1,k v G H (zd.refl s) (.fr r)⟩
 ·obtain ⟨a,vs,e1,e2,e3,e4⟩:=er.own i xs ef1
  exact ⟨_,e1,k _ G H (zd.refl s) (.ow e2 e3 e4)⟩
theorem zEB {v:V} {d:D} (h:PE X e (tC v)) (r:∀ K G,Rep K G d v):SE X e (λ_=>some d):=zA7 h λσ H Q=>by
 rintro ⟨G,ρ,d',s,er,ef,k⟩
 cases ef
 exact k v G H (zd.refl s) (r _ _)
theorem zF {i j}:SE X (.Constant (.int i) j pos) (λ_=>some (.int i)):=zEB zPW λ_ _=>yC.mpr rfl
theorem zLn {i j}:SE X (.Constant (.bool i) j pos) (λ_=>some (.bl i)):=zEB pe_bl λ_ _=>yQ.mpr rfl
theorem zHW {j}:SE X (.Constant .none j pos) (λ_=>some .non):=zEB zSZ λ_ _=>zAQ.mpr rfl
theorem yH {i j}:SE X (.Constant (.str i) j pos) (λ_=>some (.str i)):=zEB zPX λ_ _=>zAR.mpr rfl
noncomputable def rD (K:Fg) (op:D->D->Option D):R2:=λx y H Q=>∃ G dx dy d,zi G H/\zCC K G H dx x/\zCC K G H dy y/\op dx dy=some d/\∀ v G' H',zd G H G' H'->Rep K G' d v->Q v H'
noncomputable def b2 (f g:ROd) (op:D->D->Option D):ROd:=λρ=>(f ρ).bind λx=>(g ρ).bind λy=>op x y
theorem zN0 {K:Fg} {op:D->D->Option D} {σ:L2.St} {H:Hp} {Q:VK} (h:tE K (b2 f g op) σ H Q):tOp (rD K op) (tR K f) (tR K g) σ H Q:=by
 obtain ⟨G,ρ,d,s,er,ef,k⟩:=h
 obtain ⟨x,e1,ef⟩:=zUX.mp ef
 obtain ⟨y,e2,ef⟩:=zUX.mp ef
 refine ⟨G,ρ,x,s,er,e1,λv1 G1 H1 t1 r1=>⟨G1,ρ,y,t1.s,er.step t1,e2,λv2 G2 H2 t2 r2=>?_⟩⟩
 exact ⟨G2,x,y,d,t2.s,r1.step t2,r2,ef,λv G' H' t r=>k v G' H' ((t1.trans t2).trans t) r⟩
theorem zb {op:Operator} {o2:D->D->Option D} (ho:OpR X (binaryOp op) (rD X.K o2)) (ha:SR X a f) (hb:SR X b g):SE X (.BinOp a op b pos) (b2 f g o2):=zA7 (zSo ho ha hb) λ_ _ _ h=>zN0 h
theorem zEX {op:CmpOp} {o2:D->D->Option D} (ho:OpR X (compareOp op) (rD X.K o2)) (ha:SR X a f) (hb:SR X b g) (hm:behindInMarks op b=false):SE X (.Compare a [op] [b] pos) (b2 f g o2):=zA7 (zLP ho ha hb hm) λ_ _ _ h=>zN0 h
noncomputable def asB:D->Option Bool
 |.bl b=>some b
 |_=>none
noncomputable def bB (f:ROd):ROb:=λρ=>(f ρ).bind asB
theorem zFj {d:D} {b:Bool} (h:asB d=some b):d = .bl b:=by
 cases d<;>first|(cases h;rfl)|cases h
theorem yW {op:CmpOp} {o2:D->D->Option D} (ho:OpR X (compareOp op) (rD X.K o2)) (ha:SR X a f) (hb:SR X b g) (hm:behindInMarks op b=false):SB X (.Compare a [op] [b] pos) (bB (b2 f g o2)):=
 zHU (zGK ho ha hb hm) λσ H Q=>by
  rintro ⟨G,ρ,d,s,er,ef,k⟩
  obtain ⟨x,e1,e2⟩:=zUX.mp ef
  have e3:=zFj e2
  subst e3
  exact zN0 ⟨G,ρ,_,s,er,e1,λv G' H' t r=>⟨d,yQ.mp r,k G' H' t⟩⟩
noncomputable def b3 (f g h:ROd) (o1 o2:D->D->Option D):ROd:=λρ=>(f ρ).bind λx=>(g ρ).bind λy=>(o1 x y).bind λz=>(asB z).bind λk=>if k=true then (h ρ).bind λw=>o2 y w else some (.bl false)
noncomputable def bAnd (f g:ROb):ROb:=λρ=>(f ρ).bind λb=>if b=true then g ρ else some false
noncomputable def bOr (f g:ROb):ROb:=λρ=>(f ρ).bind λb=>if b=true then some true else g ρ
noncomputable def zQp (f:ROb):ROb:=λρ=>(f ρ).map (!·)
abbrev SW (X:Cx) (e:Expr) (f:ROb):Prop:=PW X e (tTs X.K f)
theorem zTC {X:Cx} {e:Expr} {t t':TT} (h:PW X e t) (w:∀ σ H Q,t' σ H Q->t σ H Q):PW X e t':=λwh pins s σ H Q I q=>h wh pins s σ H Q I (w σ H Q q)
theorem sb_w {f:ROb} (h:SW X e f):SB X e f:=h.pt
variable {p q:ROb} {rest:List Expr}
theorem zQq (ha:SB X a p):SW X (.BoolOp .And [a] pos) p:=zQH ha
theorem zTD (ha:SB X a p):SW X (.BoolOp .Or [a] pos) p:=zSb ha
theorem zTE (ha:SB X a p) (hb:SW X (.BoolOp .And (b::rest) pos) q):SW X (.BoolOp .And (a::b::rest) pos) (bAnd p q):=
 zTC (zSc ha hb) λσ H Q=>by
  rintro ⟨G,ρ,d,s,er,ef,k⟩
  obtain ⟨c,e1,ef⟩:=zUX.mp ef
  refine ⟨G,ρ,c,s,er,e1,λG1 H1 t1=>?_⟩
  cases c with
  |false=>rw [zVD zU7] at ef ⊢;cases ef;exact k G1 H1 t1
  |true=>rw [zUp rfl] at ef ⊢;exact ⟨G1,ρ,d,t1.s,er.step t1,ef,λG' H' t=>k G' H' (t1.trans t)⟩
theorem sw_or (ha:SB X a p) (hb:SW X (.BoolOp .Or (b::rest) pos) q):SW X (.BoolOp .Or (a::b::rest) pos) (bOr p q):=
 zTC (pw_or ha hb) λσ H Q=>by
  rintro ⟨G,ρ,d,s,er,ef,k⟩
  obtain ⟨c,e1,ef⟩:=zUX.mp ef
  refine ⟨G,ρ,c,s,er,e1,λG1 H1 t1=>?_⟩
  cases c with
  |true=>rw [zUp rfl] at ef ⊢;cases ef;exact k G1 H1 t1
  |false=>rw [zVD zU7] at ef ⊢;exact ⟨G1,ρ,d,t1.s,er.step t1,ef,λG' H' t=>k G' H' (t1.trans t)⟩
theorem zLo (ha:SB X a p):SB X (.UnaryOp .Not a pos) (zQp p):=zHU (zSd ha) λσ H Q=>by
 rintro ⟨G,ρ,d,s,er,ef,k⟩
 obtain ⟨c,e1,rfl⟩:=zUZ.mp ef
 exact ⟨G,ρ,c,s,er,e1,λG1 H1 t1=>k G1 H1 t1⟩
noncomputable def truD:D->Option Bool
 |.non=>some false
 |.bl b=>some b
 |.int i=>some (i != 0)
 |.str x=>if x.length<=sizeLine then some ((x.length:Int) != 0) else none
 |.tup xs=>some (!xs.isEmpty)
 |.lst xs=>some (!xs.isEmpty)
theorem zFk {K:Fg} {G:Hp} {xs:List D} {vs:List V} (h:Reps K G xs vs):xs.isEmpty=vs.isEmpty:=by
 have:=h.length
 cases xs<;>cases vs<;>simp_all
noncomputable def zK9 (f:ROd):ROb:=λρ=>(f ρ).bind truD
theorem zEY (ha:SR X a f) (he:∀ whole,isTrue a X.env whole=(do let v <- whole;standAt a.pos;holding [v] (truthy v)):=by intro _;rfl):SB X a (zK9 f):=
 zHU (zNm ha he) λσ H Q=>by
  rintro ⟨G,ρ,b,s,er,ef,k⟩
  obtain ⟨d,e1,ef⟩:=zUX.mp ef
  refine ⟨G,ρ,d,s,er,e1,λv G1 H1 t1 r1=>⟨b,?_,k G1 H1 t1⟩⟩
  cases d with
  |non=>cases ef;rw [r1.non];exact rfl
  |bl c=>cases ef;rw [r1.bl];exact rfl
  |int c=>cases ef;rw [r1.int];exact rfl
  |str c=>
   simp only [truD] at ef
   split at ef
   ·rename_i h;cases ef;rw [r1.str];exact ⟨h,rfl⟩
   ·cases ef
  |tup xs=>cases ef;obtain ⟨a,vs,rfl,q,r⟩:=r1.tup t1.s;exact .inr (.inl ⟨vs,q,by rw [zFk r]⟩)
  |lst xs=>cases ef;obtain ⟨a,vs,rfl,q,r⟩:=r1.list t1.s;exact .inl ⟨vs,q,by rw [zFk r]⟩
noncomputable def zN1 (f g:ROd):ROd:=λρ=>(f ρ).bind λx=>(asB x).bind λb=>if b=true then g ρ else some (.bl false)
noncomputable def vOr (f g:ROd):ROd:=λρ=>(f ρ).bind λx=>(asB x).bind λb=>if b=true then some (.bl true) else g ρ
noncomputable def vNot (f:ROd):ROd:=λρ=>(f ρ).bind λx=>(asB x).map λb=>.bl (!b)
theorem zHX {op} (h:SE X a f):SE X (.BoolOp op [a] pos) f:=zSe h
theorem zHY (ha:SE X a f) (hb:SE X (.BoolOp .And (b::rest) pos) g):SE X (.BoolOp .And (a::b::rest) pos) (zN1 f g):=
 zA7 (zSf ha hb) λσ H Q=>by
  rintro ⟨G,ρ,d,s,er,ef,k⟩
  obtain ⟨x,e1,ef1⟩:=zUX.mp ef
  obtain ⟨c,e2,ef2⟩:=zUX.mp ef1
  have e3:=zFj e2
  subst e3
  refine ⟨G,ρ,_,s,er,e1,λv1 G1 H1 t1 r1=>⟨c,yQ.mp r1,?_⟩⟩
  cases c with
  |false=>rw [zVD zU7] at ef2 ⊢;cases ef2;exact k _ G1 H1 t1 (yQ.mpr rfl)
  |true=>rw [zUp rfl] at ef2 ⊢;exact ⟨G1,ρ,d,t1.s,er.step t1,ef2,λv G' H' t r=>k v G' H' (t1.trans t) r⟩
theorem se_or (ha:SE X a f) (hb:SE X (.BoolOp .Or (b::rest) pos) g):SE X (.BoolOp .Or (a::b::rest) pos) (vOr f g):=
 zA7 (pe_or ha hb) λσ H Q=>by
  rintro ⟨G,ρ,d,s,er,ef,k⟩
  obtain ⟨x,e1,ef1⟩:=zUX.mp ef
  obtain ⟨c,e2,ef2⟩:=zUX.mp ef1
  have e3:=zFj e2
  subst e3
  refine ⟨G,ρ,_,s,er,e1,λv1 G1 H1 t1 r1=>⟨c,yQ.mp r1,?_⟩⟩
  cases c with
  |true=>rw [zUp rfl] at ef2 ⊢;cases ef2;exact k _ G1 H1 t1 (yQ.mpr rfl)
  |false=>rw [zVD zU7] at ef2 ⊢;exact ⟨G1,ρ,d,t1.s,er.step t1,ef2,λv G' H' t r=>k v G' H' (t1.trans t) r⟩
theorem zTF (ha:SE X a f):SE X (.UnaryOp .Not a pos) (vNot f):=zA7 (zSg ha) λσ H Q=>by
 rintro ⟨G,ρ,d,s,er,ef,k⟩
 obtain ⟨x,e1,ef⟩:=zUX.mp ef
 obtain ⟨c,e2,rfl⟩:=zUZ.mp ef
 have e3:=zFj e2
 subst e3
 exact ⟨G,ρ,_,s,er,e1,λv1 G1 H1 t1 r1=>⟨c,yQ.mp r1,k _ G1 H1 t1 (yQ.mpr rfl)⟩⟩
noncomputable def zB (f:ROd) (g:ROl):ROl:=λρ=>(f ρ).bind λx=>(g ρ).map λxs=>x::xs
theorem zG:SA X [] zN:=⟨zNz qC λσ H Q=>by rintro ⟨G,ρ,d,s,er,ef,k⟩;cases ef;exact k [] G H (zd.refl s) Reps.nil,λρ ds h=>by cases h;rfl⟩
theorem zA (ha:SE X e f) (hr:SA X es fl) (hs:starEach (e::es) X.env=(false,eval e X.env)::starEach es X.env:=by rfl):SA X (e::es) (zB f fl):=by
 refine ⟨zNz (yF ha hr.pa hs) λσ H Q ⟨G,ρ,d,s,er,ef,k⟩=>?_,λρ ds h=>?_⟩
 ·obtain ⟨x,e1,ef⟩:=zUX.mp ef
  obtain ⟨xs,e2,rfl⟩:=zUZ.mp ef
  exact ⟨G,ρ,x,s,er,e1,λv1 G1 H1 t1 r1=>⟨G1,ρ,xs,t1.s,er.step t1,e2,λvs G2 H2 t2 r2=>k _ G2 H2 (t1.trans t2) (Reps.cons (Rep.mono t2.g _ _ r1) r2)⟩⟩
 ·obtain ⟨x,e1,ef⟩:=zUX.mp h
  obtain ⟨xs,e2,rfl⟩:=zUZ.mp ef
  rw [zUa,zUa,hr.len ρ xs e2]
theorem zAj {n:Nat} (h:n<=1000):n<=sizeLine:=Nat.le_of_lt (zLk h)
theorem zY {x1} (h:SA X es fl) (hl:es.length<=1000:=by decide):SE X (.Tuple es x1 pos) (λρ=>(fl ρ).map D.tup):=zA7 (zSw h.pa) λσ H Q=>by
 rintro ⟨G,ρ,d,s,er,ef,k⟩
 obtain ⟨xs,e1,rfl⟩:=zUZ.mp ef
 refine ⟨G,ρ,xs,s,er,e1,λvs G1 H1 t1 r1=>⟨by rw [<- r1.length,h.len _ _ e1];exact zAj hl,λp hp=>?_⟩⟩
 exact k _ _ _ (t1.trans (zd.new t1.s hp)) (zBM.mpr ⟨p,vs,rfl,zM,Reps.mono (yj (t1.s.free hp)) _ _ r1⟩)
theorem qE (h:SA X es fl) (hl:es.length<=1000:=by decide):SF X (.List es pos) fl:=zA7 (zLT h.pa) λσ H Q=>by
 rintro ⟨G,ρ,xs,s,er,ef,k⟩
 refine ⟨G,ρ,xs,s,er,ef,λvs G1 H1 t1 r1=>⟨by rw [<- r1.length,h.len _ _ ef];exact zAj hl,λp hp=>?_⟩⟩
 exact k p vs G1 (upd H1 p (.lst vs)) (t1.trans (zd.newH t1.s hp)) (t1.h.free hp) (t1.s.free hp) zM r1
noncomputable def spD (K:Fg) (f:List D->Option D) (n:Nat):Sp:=λvs H Q _=>∃ G ds d,zi G H/\Reps K G ds vs/\ds.length=n/\f ds=some d/\∀ v G' H',zd G H G' H'->Rep K G' d v->Q v H'
theorem zQr {k n:Nat} {fa:Addr} {fd:FuncData} {ps:List Str} {F:List D->Option D} {x:Str} {p:Pos} (FO:zCb X.prog X.w X.K X.mg X.base CX0 k fa fd ps (spD X.K F n)) (hr:zAO k X.A) (hg:Gl X x) (hm:X.mg x=some (.ref fa)) (hk:PySem.W.keepIn X.K (.ref fa)=true)
  (hb:zAu X.K fd ps []) (hn:(e::es).length=n) (ha:SA X (e::es) fl) (hdb:(x == ("__debug__" : Str))=false:=by decide) (he:starEach (e::es) X.env=(false,eval e X.env)::starEach es X.env:=by rfl)
  (hpl:(backTo pos (starEach es X.env)).any (·.1)=false:=by rfl):SE X (.Call (.Name x p) (e::es) [] pos) (λρ=>(fl ρ).bind F):=
 zA7 (zGL (E:=E0) FO hr hg hm hk hb .nil zKX ha.pa hdb he hpl) λσ H Q=>by
  rintro ⟨G,ρ,d,s,er,ef,k⟩
  obtain ⟨xs,e1,e2⟩:=zUX.mp ef
  refine ⟨G,ρ,xs,s,er,e1,λvs G1 H1 t1 r1=>?_⟩
  show spD X.K F n (vs ++ []) H1 Q E0
  rw [zVP]
  exact ⟨G1,xs,d,t1.s,r1,by rw [ha.len _ _ e1,hn],e2,λv G' H' t r=>k v G' H' (t1.trans t) r⟩
noncomputable def cR (K:Fg) (op:D->Option D):List V->Hp->VK->Prop:=λxs H Q=>∃ G d1 d x,xs = [x]/\zi G H/\zCC K G H d1 x/\op d1=some d/\∀ v G' H',zd G H G' H'->Rep K G' d v->Q v H'
noncomputable def cF (K:Fg) (op:D->Option (List D)):List V->Hp->VK->Prop:=λxs H Q=>∃ G d1 ys x,xs = [x]/\zi G H/\zCC K G H d1 x/\op d1=some ys /\
 ∀ a vs G' H',zd G H G' H'->H a=none->G' a=none->H' a=some (.lst vs)->Reps K G' ys vs->Q (.ref a) H'
variable {x:Str} {p1:Pos} {id T:String}
noncomputable def b1 (f:ROd) (op:D->Option D):ROd:=λρ=>(f ρ).bind op
theorem zTG {K:Fg} {op:D->Option D} {σ:L2.St} {H:Hp} {Q:VK} (h:tE K (b1 f op) σ H Q):tCB (cR K op) (zQV (tR K f) tNil) σ H Q:=by
 obtain ⟨G,ρ,d,s,er,ef,k⟩:=h
 obtain ⟨d1,e1,ef⟩:=zUX.mp ef
 exact ⟨G,ρ,d1,s,er,e1,λv1 G1 H1 t1 r1=>⟨G1,d1,d,v1,rfl,t1.s,r1,ef,λv G' H' t r=>k v G' H' (t1.trans t) r⟩⟩
noncomputable def b1F (f:ROd) (op:D->Option (List D)):ROl:=λρ=>(f ρ).bind op
theorem zPf {K:Fg} {op:D->Option (List D)} {σ:L2.St} {H:Hp} {Q:VK} (h:tF K (b1F f op) σ H Q):tCB (cF K op) (zQV (tR K f) tNil) σ H Q:=by
 obtain ⟨G,ρ,d,s,er,ef,k⟩:=h
 obtain ⟨d1,e1,ef⟩:=zUX.mp ef
 exact ⟨G,ρ,d1,s,er,e1,λv1 G1 H1 t1 r1=>⟨G1,d1,d,v1,rfl,t1.s,r1,ef,λa vs G' H' t h1 h2 h3 r=>k a vs G' H' (t1.trans t) (t1.h.free h1) h2 h3 r⟩⟩
theorem yA {op:D->Option D} (hc:zAt X (.builtin id) (cR X.K op)) (hg:Gl X x) (hm:X.mg x=none) (hv:bootBuiltins x=some (.builtin id)) (ha:SR X a f) (hn:x ≠ "__name__":=by decide) (hdb:(x == ("__debug__" : Str))=false:=by decide)
  (hs:starEach [a] X.env=(false,eval a X.env)::starEach [] X.env:=by rfl) (he:starEach [a] X.env=(false,eval a X.env)::starEach [] X.env:=by rfl) (hpl:(backTo pos (starEach [] X.env)).any (·.1)=false:=by rfl):SE X (.Call (.Name x p1) [a] [] pos) (b1 f op):=
 zA7 (zCl hc hg hm hv (yF ha qC hs) hn hdb he hpl) λ_ _ _ h=>zTG h
theorem yI {op:D->Option D} (hc:zAt X (.type T) (cR X.K op)) (hg:Gl X x) (hm:X.mg x=none) (hv:bootBuiltins x=some (.type T)) (ha:SR X a f) (hn:x ≠ "__name__":=by decide) (hdb:(x == ("__debug__" : Str))=false:=by decide)
  (hs:starEach [a] X.env=(false,eval a X.env)::starEach [] X.env:=by rfl) (he:starEach [a] X.env=(false,eval a X.env)::starEach [] X.env:=by rfl) (hpl:(backTo pos (starEach [] X.env)).any (·.1)=false:=by rfl):SE X (.Call (.Name x p1) [a] [] pos) (b1 f op):=
 zA7 (zET hc hg hm hv (yF ha qC hs) hn hdb he hpl) λ_ _ _ h=>zTG h
theorem zJY {op:D->Option (List D)} (hc:zAt X (.builtin id) (cF X.K op)) (hg:Gl X x) (hm:X.mg x=none) (hv:bootBuiltins x=some (.builtin id)) (ha:SR X a f) (hn:x ≠ "__name__":=by decide) (hdb:(x == ("__debug__" : Str))=false:=by decide)
  (hs:starEach [a] X.env=(false,eval a X.env)::starEach [] X.env:=by rfl) (he:starEach [a] X.env=(false,eval a X.env)::starEach [] X.env:=by rfl) (hpl:(backTo pos (starEach [] X.env)).any (·.1)=false:=by rfl):SF X (.Call (.Name x p1) [a] [] pos) (b1F f op):=
 zA7 (zCl hc hg hm hv (yF ha qC hs) hn hdb he hpl) λ_ _ _ h=>zPf h
theorem zLp {op:D->Option (List D)} (hc:zAt X (.type T) (cF X.K op)) (hg:Gl X x) (hm:X.mg x=none) (hv:bootBuiltins x=some (.type T)) (ha:SR X a f) (hn:x ≠ "__name__":=by decide) (hdb:(x == ("__debug__" : Str))=false:=by decide)
  (hs:starEach [a] X.env=(false,eval a X.env)::starEach [] X.env:=by rfl) (he:starEach [a] X.env=(false,eval a X.env)::starEach [] X.env:=by rfl) (hpl:(backTo pos (starEach [] X.env)).any (·.1)=false:=by rfl):SF X (.Call (.Name x p1) [a] [] pos) (b1F f op):=
 zA7 (zET hc hg hm hv (yF ha qC hs) hn hdb he hpl) λ_ _ _ h=>zPf h
end
inductive Out where
 |nx (ρ:Rho)|rt (d:D)|bk (ρ:Rho)|ct (ρ:Rho)
  |ro (s:Sl)
  |rm (d:D) (ρ:Rho)
abbrev ROo:=Rho->Option Out
noncomputable def zSP (K:Fg) (G0 H0:Hp) (E:zLI):Out->Prop
 |.nx ρ=>∀ σ G H,StR K G0 H0 G H ρ σ->E.nx σ H
 |.bk ρ=>∀ σ G H,StR K G0 H0 G H ρ σ->E.bk σ H
 |.ct ρ=>∀ σ G H,StR K G0 H0 G H ρ σ->E.ct σ H
 |.rt d=>∀ v G H,Bs G0 H0 G H->Rep K G d v->E.rt v H
 |.ro s=>∀ a G H,Bs G0 H0 G H->zJX K G H s a->(∀ c∈fpS H s a,G c=none/\H0 c=none)->E.rt (.ref a) H
 |.rm d ρ=>∀ v σ G H,StR K G0 H0 G H ρ σ->Rep K G d v->E.rt v H
noncomputable def tS (K:Fg) (F:ROo):TS:=λE σ H=>∃ G0 H0 G ρ o,StR K G0 H0 G H ρ σ/\F ρ=some o/\zSP K G0 H0 E o
abbrev SS (X:Cx) (s:Stmt) (F:ROo):Prop:=PS X s (tS X.K F)
abbrev SSs (X:Cx) (s:List Stmt) (F:ROo):Prop:=PSs X s (tS X.K F)
section
variable {X:Cx} {e a b:Expr} {es:List Expr} {f g:ROd} {fl:ROl} {p:ROb} {pos:Pos} {F F':ROo} {st:Stmt} {rest:List Stmt}
noncomputable def sq (F F':ROo):ROo:=λρ=>(F ρ).bind λo=>match o with
 |.nx ρ'=>F' ρ'
 |o=>some o
theorem yJ:SSs X [] (λρ=>some (.nx ρ)):=zHV zQI λQ σ H=>by rintro ⟨G0,H0,G,ρ,o,st,ef,k⟩;cases ef;exact k σ G H st
theorem zI (h1:SS X st F) (h2:SSs X rest F'):SSs X (st::rest) (sq F F'):=zHV (zJN h1 h2) λQ σ H=>by
 rintro ⟨G0,H0,G,ρ,o,st,ef,k⟩
 obtain ⟨o1,e1,e2⟩:=zUX.mp ef
 refine ⟨G0,H0,G,ρ,o1,st,e1,?_⟩
 cases o1 with
 |nx ρ'=>exact λσ' G' H' st'=>⟨G0,H0,G',ρ',o,st',e2,k⟩
 |rt d=>cases e2;exact k
 |ro d=>cases e2;exact k
 |rm d ρ=>cases e2;exact k
 |bk d=>cases e2;exact k
 |ct d=>cases e2;exact k
theorem zO (h1:SS X st F):SSs X [st] F:=zLJ h1
theorem zPg (i:Nat) (h:SSs X rest F):SSs X rest (λρ=>F (frz i ρ)):=zHV h λQ σ H=>by
 rintro ⟨G0,H0,G,ρ,o,st,ef,k⟩
 obtain ⟨G',sG,st'⟩:=st.frz i
 exact ⟨G0,H0,G',frz i ρ,o,st',ef,k⟩
theorem zQs:SS X (.Continue pos) (λρ=>some (.ct ρ)):=ym zIV λQ σ H=>by rintro ⟨G0,H0,G,ρ,o,st,ef,k⟩;cases ef;exact k σ G H st
noncomputable def zAA (f:ROd):ROo:=λρ=>(f ρ).map .rt
theorem zv (he:SE X e f):SS X (.Return (some e) pos) (zAA f):=ym (zJO he) λQ σ H=>by
 rintro ⟨G0,H0,G,ρ,o,st,ef,k⟩
 obtain ⟨d,e1,rfl⟩:=zUZ.mp ef
 exact ⟨G,ρ,d,st.bs.gh,st.er,e1,λv G' H' t r=>k v G' H' (st.bs.step t) r⟩
noncomputable def sIf (c:ROb) (F F':ROo):ROo:=λρ=>(c ρ).bind λb=>if b=true then F ρ else F' ρ
theorem qS {c:Expr} {A B:List Stmt} (hc:SB X c p) (ha:SSs X A F) (hb:SSs X B F'):SS X (.If c A B pos) (sIf p F F'):=ym (zSh hc ha hb) λQ σ H=>by
 rintro ⟨G0,H0,G,ρ,o,st,ef,k⟩
 obtain ⟨d,e1,e2⟩:=zUX.mp ef
 refine ⟨G,ρ,d,st.bs.gh,st.er,e1,λG' H' t=>?_⟩
 cases d with
 |true=>rw [zUp rfl] at e2 ⊢;exact ⟨G0,H0,G',ρ,o,st.step t,e2,k⟩
 |false=>rw [zVD zU7] at e2 ⊢;exact ⟨G0,H0,G',ρ,o,st.step t,e2,k⟩
noncomputable def qD (i:Nat) (f:ROd):ROo:=λρ=>(f ρ).map λd=>.nx (ρ.set i (.v d))
noncomputable def zAT (i:Nat) (f:ROl):ROo:=λρ=>(f ρ).map λd=>.nx (ρ.set i (.l d))
variable {i:Nat} {x:Str} {pos':Pos}
theorem zp (i:Nat) (he:SE X e f) (hN:X.N.Nodup) (hi:X.N[i]?=some x) (hx:Loc X.env.scope x) (hs:swapsWith e (some (.Name x pos')) pos.line X.env=pure false:=by rfl)
  (hf:X.fn x=true\/X.env.scope.names.lookup x=some .local:=by first|exact .inl rfl|exact .inr rfl|assumption):SS X (.Assign [.Name x pos'] e pos) (qD i f):=
 ym (zDw hN hi hx he hs hf) λQ σ H=>by
  rintro ⟨G0,H0,G,ρ,o,st,ef,k⟩
  obtain ⟨d,e1,rfl⟩:=zUZ.mp ef
  exact ⟨G,ρ,d,st.bs.gh,st.er,e1,λv G' H' t r=>k _ G' H' ((st.step t).setV r)⟩
theorem qc (i:Nat) (he:SF X e fl) (hN:X.N.Nodup) (hi:X.N[i]?=some x) (hx:Loc X.env.scope x) (hs:swapsWith e (some (.Name x pos')) pos.line X.env=pure false:=by rfl)
  (hf:X.fn x=true\/X.env.scope.names.lookup x=some .local:=by first|exact .inl rfl|exact .inr rfl|assumption):SS X (.Assign [.Name x pos'] e pos) (zAT i fl):=
 ym (zDw hN hi hx he hs hf) λQ σ H=>by
  rintro ⟨G0,H0,G,ρ,o,st,ef,k⟩
  obtain ⟨d,e1,rfl⟩:=zUZ.mp ef
  refine ⟨G,ρ,d,st.bs.gh,st.er,e1,λa vs G' H' t h1 h2 h3 r=>k _ G' H' (st.setOwn t rfl h1 h2 (λxs z=>?_) λ_ z=>by cases z)⟩
  cases z;exact ⟨vs,h3,r⟩
noncomputable def tGt (K:Fg) (g:D->Rho->Option Rho):TG:=λv σ H Q=>∃ G0 H0 G ρ d ρ',StR K G0 H0 G H ρ σ/\Rep K G d v/\g d ρ=some ρ'/\∀ σ',StR K G0 H0 G H ρ' σ'->Q σ' H
noncomputable def tGts (K:Fg) (g:List D->Rho->Option Rho):TGs:=λvs σ H Q=>∃ G0 H0 G ρ ds ρ',StR K G0 H0 G H ρ σ/\Reps K G ds vs/\g ds ρ=some ρ'/\∀ σ',StR K G0 H0 G H ρ' σ'->Q σ' H
abbrev SG (X:Cx) (e:Expr) (g:D->Rho->Option Rho):Prop:=PG X e (tGt X.K g)
abbrev SGs (X:Cx) (e:List Expr) (g:List D->Rho->Option Rho):Prop:=PGs X e (tGts X.K g)
theorem zTH {X:Cx} {e:Expr} {t t':TG} (h:PG X e t) (w:∀ v σ H Q,t' v σ H Q->t v σ H Q):PG X e t':=λpins s σ H v u Q I r q=>h pins s σ H v u Q I r (w v σ H Q q)
theorem zPh {X:Cx} {e:List Expr} {t t':TGs} (h:PGs X e t) (w:∀ v σ H Q,t' v σ H Q->t v σ H Q):PGs X e t':=λpins s σ H v u Q I r q=>h pins s σ H v u Q I r (w v σ H Q q)
noncomputable def gN (i:Nat):D->Rho->Option Rho:=λd ρ=>some (ρ.set i (.v d))
theorem zW (i:Nat) (hN:X.N.Nodup) (hi:X.N[i]?=some x) (hx:Loc X.env.scope x) (hf:X.fn x=true\/X.env.scope.names.lookup x=some .local:=by first|exact .inl rfl|exact .inr rfl|assumption):SG X (.Name x pos) (gN i):=
 zTH (zQJ hN hi hx hf) λv σ H Q=>by
  rintro ⟨G0,H0,G,ρ,d,ρ',st,r,e,k⟩
  cases e
  exact k _ (st.setV r)
noncomputable def gNl:List D->Rho->Option Rho:=λds ρ=>match ds with
 | []=>some ρ
 |_=>none
noncomputable def gCs (g:D->Rho->Option Rho) (gs:List D->Rho->Option Rho):List D->Rho->Option Rho:=λds ρ=>match ds with
 | []=>none
 |d::r=>(g d ρ).bind λρ'=>gs r ρ'
theorem zBt:SGs X [] gNl:=zPh zQK λv σ H Q=>by
 rintro ⟨G0,H0,G,ρ,ds,ρ',st,r,e,k⟩
 cases ds with
 |nil=>cases e;exact ⟨yR.mp r,k σ st⟩
 |cons _ _=>cases e
theorem yX {gd:D->Rho->Option Rho} {gs:List D->Rho->Option Rho} (h1:SG X e gd) (h2:SGs X es gs) (hs:(assignEach (e::es) X.env).map (·.2)=assign e X.env::(assignEach es X.env).map (·.2):=by rfl):SGs X (e::es) (gCs gd gs):=
 zPh (zNl h1 h2 hs) λvs σ H Q=>by
  rintro ⟨G0,H0,G,ρ,ds,ρ',st,r,e,k⟩
  cases ds with
  |nil=>cases e
  |cons d ds=>
   obtain ⟨v,r',rfl,rd,rs⟩:=za.mp r
   obtain ⟨ρ1,e1,e2⟩:=zUX.mp e
   exact ⟨v,r',rfl,G0,H0,G,ρ,d,ρ1,st,rd,e1,λσ' st'=>⟨G0,H0,G,ρ1,ds,ρ',st',rs,e2,k⟩⟩
noncomputable def gT (n:Nat) (gs:List D->Rho->Option Rho):D->Rho->Option Rho:=λd ρ=>match d with
 |.tup ds=>if ds.length=n then gs ds ρ else none
 |_=>none
theorem zDz {k n:Nat} {gs:List D->Rho->Option Rho} (hc:X.calm=true) (h:SGs X es gs) (hn:(assignEach es X.env).length=n:=by rfl) (hst:(assignEach es X.env).findIdx? (·.1)=none:=by rfl):SG X (.Tuple es k pos) (gT n gs):=
 zTH (zSk hc h hn hst) λv σ H Q=>by
  rintro ⟨G0,H0,G,ρ,d,ρ',st,r,e,k⟩
  cases d with
  |tup ds=>
   simp only [gT] at e
   split at e
   ·rename_i hl
    obtain ⟨a,vs,rfl,q,rs⟩:=zCc r
    exact ⟨a,vs,rfl,qT st.bs.gh q,by rw [<- rs.length];exact hl,G0,H0,G,ρ,ds,ρ',st,rs,e,k⟩
   ·cases e
  |_=>cases e
noncomputable def zSQ (f:ROd) (g:D->Rho->Option Rho):ROo:=λρ=>(f ρ).bind λd=>(g d ρ).map .nx
theorem zPi {tg:Expr} {gd:D->Rho->Option Rho} (he:SE X e f) (hg:SG X tg gd) (hs:swapsWithSole [tg] e pos.line X.env=pure false:=by rfl) (hw:swappedStores [tg] e X.env=pure none:=by rfl)
  (h1:(assignEach [tg] X.env).map (·.2) = [assign tg X.env]:=by rfl):SS X (.Assign [tg] e pos) (zSQ f gd):=
 ym (zLK he hg hs hw h1) λQ σ H=>by
  rintro ⟨G0,H0,G,ρ,o,st,ef,k⟩
  obtain ⟨d,e1,e2⟩:=zUX.mp ef
  obtain ⟨ρ',e3,rfl⟩:=zUZ.mp e2
  exact ⟨G,ρ,d,st.bs.gh,st.er,e1,λv G' H' t r=>⟨G0,H0,G',ρ,d,ρ',st.step t,r,e3,λσ' st'=>k σ' G' H' st'⟩⟩
structure zNe (K:Fg) (G:Hp) (J:It) (ds:List D):Prop where
 go:∀ i H,zi G H->i<ds.length->J.go i H
 stop:∀ i H,zi G H->ds.length<=i->J.stop i H
 yld:∀ i G1 H x H',zi G G1->zi G1 H->i<ds.length->J.yld i H x H'->∃ G2,zd G1 H G2 H'/\∀ d,ds[i]?=some d->Rep K G2 d x
noncomputable def tI (K:Fg) (f:ROl):TI:=λσ H R=>∃ G ρ ds,zi G H/\Er K G H ρ σ/\f ρ=some ds/\∀ J G' H',zd G H G' H'->zNe K G' J ds->R J H'
abbrev SI (X:Cx) (tg iter:Expr) (f:ROl):Prop:=PI X tg iter (tI X.K f)
theorem zN2 {X:Cx} {tg e:Expr} {t t':TI} (h:PI X tg e t) (w:∀ σ H Q,t' σ H Q->t σ H Q):PI X tg e t':=λpins s σ H Q I q=>h pins s σ H Q I (w σ H Q q)
noncomputable def zc (g:D->Rho->Option Rho) (F:ROo):List D->Rho->Option Out
 | [],ρ=>some (.nx ρ)
 |d::ds,ρ=>(g d ρ).bind λρ1=>(F ρ1).bind λo=>match o with
  |.nx ρ'=>zc g F ds ρ'
  |.ct ρ'=>zc g F ds ρ'
  |.bk ρ'=>some (.nx ρ')
  |.rt d=>some (.rt d)
  |.ro s=>some (.ro s)
  |.rm d ρ=>some (.rm d ρ)
noncomputable def zf (f:ROl) (g:D->Rho->Option Rho) (F:ROo):ROo:=λρ=>(f ρ).bind λds=>zc g F ds ρ
noncomputable def qt (H:Hp) (ρ:Rho) (σ:L2.St):Hp:=λb=>@ite _ (∃ (i:Nat) (s:Sl) (a:Addr),ρ[i]?=some s/\s.isOwn=true/\σ[i]?=some (some (.ref a))/\b∈fpS H s a) (Classical.propDecidable _) none (H b)
theorem zEZ {H:Hp} {ρ:Rho} {σ:L2.St}:zi (qt H ρ σ) H:=λb o e=>by
 unfold qt at e
 split at e
 ·cases e
 ·exact e
theorem zDV {H:Hp} {ρ:Rho} {σ:L2.St} {b a:Addr} {i:Nat} {s:Sl} (h:ρ[i]?=some s) (o:s.isOwn=true) (q:σ[i]?=some (some (.ref a))) (m:b∈fpS H s a):qt H ρ σ b=none:=by
 unfold qt
 rw [zUp ⟨i,s,a,h,o,q,m⟩]
theorem StR.base {K:Fg} {G0 H0 G H:Hp} {ρ:Rho} {σ:L2.St} (s:StR K G0 H0 G H ρ σ):StR K G (qt H ρ σ) G H ρ σ/\zi G0 G/\zi H0 (qt H ρ σ):=by
 refine ⟨⟨s.er,⟨s.bs.gh,zi.refl _,zEZ,λb o e n=>by rw [e] at n;cases n⟩,λi u a h o q c m=>zDV h o q m⟩,s.bs.gg,λb o e=>?_⟩
 unfold qt
 split
 ·rename_i h
  obtain ⟨i,u,a,h1,h2,h3,h4⟩:=h
  rw [s.ows i u a h1 h2 h3 b h4] at e;cases e
 ·exact s.bs.hh b o e
theorem Bs.back {G0 H0 G1 H1 G H:Hp} (f:∀ b o,G1 b=some o->G0 b=none->H0 b=none) (g:zi G0 G1) (h:zi H0 H1) (b:Bs G1 H1 G H):Bs G0 H0 G H:=
 ⟨b.gh,g.trans b.gg,h.trans b.hh,λc o e n=>by
  cases q:G1 c with
  |some o'=>exact f c o' q n
  |none=>exact h.free (b.fr c o e q)⟩
theorem StR.back {K:Fg} {G0 H0 G1 H1 G H:Hp} {ρ:Rho} {σ:L2.St} (f:∀ b o,G1 b=some o->G0 b=none->H0 b=none) (g:zi G0 G1) (h:zi H0 H1) (s:StR K G1 H1 G H ρ σ):StR K G0 H0 G H ρ σ:=
 ⟨s.er,s.bs.back f g h,λi u a q o p c m=>h.free (s.ows i u a q o p c m)⟩
theorem zSP.back {K:Fg} {G0 H0 G1 H1:Hp} {E:zLI} {o:Out} (f:∀ b o,G1 b=some o->G0 b=none->H0 b=none) (g:zi G0 G1) (h:zi H0 H1) (k:zSP K G0 H0 E o):zSP K G1 H1 E o:=by
 cases o with
 |nx ρ=>exact λσ G H s=>k σ G H (s.back f g h)
 |bk ρ=>exact λσ G H s=>k σ G H (s.back f g h)
 |ct ρ=>exact λσ G H s=>k σ G H (s.back f g h)
 |rt d=>exact λv G H b r=>k v G H (b.back f g h) r
 |ro s=>exact λa G H b r n=>k a G H (b.back f g h) r λc m=>⟨(n c m).1,h.free (n c m).2⟩
 |rm d ρ=>exact λv σ G H s r=>k v σ G H (s.back f g h) r
theorem zAG {tg iter:Expr} {body:List Stmt} {gd:D->Rho->Option Rho} (hp:PassesOwn (model X.prog X.w) X.A X.env X.xe) (hc:X.calm=true) (hi:SI X tg iter fl) (hg:SG X tg gd) (hb:SSs X body F)
  (hs:∀ x,foldedSetIterable iter X.env x=pure x:=by intro _;rfl):SS X (.For tg iter body [] pos) (zf fl gd F):=
 ym (zSn hp hc hi hg hb hs) λE σ H=>by
  rintro ⟨G0,H0,G,ρ,o,st,ef,k⟩
  obtain ⟨ds,e1,e2⟩:=zUX.mp ef
  refine ⟨G,ρ,ds,st.bs.gh,st.er,e1,λJ G1 H1 t1 it=>?_⟩
  obtain ⟨st1,sg,sh⟩:=(st.step t1).base
  have k1:=k.back (st.step t1).bs.fr sg sh
  generalize hH:qt H1 ρ σ=H1' at st1 k1 sh
  refine ⟨λi m σ' H'=>m=ds.length-i/\i<=ds.length/\∃ G' ρ',StR X.K G1 H1' G' H' ρ' σ'/\zc gd F (ds.drop i) ρ'=some o,⟨ds.length,by simp,zV7 _,G1,ρ,st1,by simpa using e2⟩,?_⟩
  rintro i m σ2 H2 ⟨rfl,hi,G2,ρ2,st2,ef2⟩
  by_cases hlt:i<ds.length
  ·right
   have ed:ds.drop i=ds[i]::ds.drop (i+1):=zV6 hlt
   rw [ed] at ef2
   obtain ⟨ρ3,e3,e4⟩:=zUX.mp ef2
   obtain ⟨o3,e5,e6⟩:=zUX.mp e4
   refine ⟨it.go i H2 (st2.bs.gg.trans st2.bs.gh) hlt,λσ' H'=>∃ G' ρ',StR X.K G1 H1' G' H' ρ' σ'/\zc gd F (ds.drop (i+1)) ρ'=some o,λσ' H' h=>⟨ds.length-(i+1),by omega,rfl,hlt,h⟩,λx H' y=>?_⟩
   obtain ⟨G3,t3,r3⟩:=it.yld i G2 H2 x H' st2.bs.gg st2.bs.gh hlt y
   refine ⟨G1,H1',G3,ρ2,ds[i],ρ3,st2.step t3,r3 _ (by simp [hlt]),e3,λσ4 st4=>⟨G1,H1',G3,ρ3,o3,st4,e5,?_⟩⟩
   cases o3 with
   |nx ρ'=>exact λσ5 G5 H5 st5=>⟨G5,ρ',st5,e6⟩
   |ct ρ'=>exact λσ5 G5 H5 st5=>⟨G5,ρ',st5,e6⟩
   |bk ρ'=>cases e6;exact k1
   |rt d=>cases e6;exact k1
   |ro d=>cases e6;exact k1
   |rm d ρ=>cases e6;exact k1
  ·left
   have e:i=ds.length:=by omega
   subst e
   rw [List.drop_length] at ef2
   cases ef2
   exact ⟨it.stop _ H2 (st2.bs.gg.trans st2.bs.gh) (zUn _),k1 σ2 G2 H2 st2⟩
noncomputable def zBd (c:ROb) (F:ROo):Nat->Rho->Option Out
 |0,_=>none
 |n+1,ρ=>(c ρ).bind λb=>if b=true then (F ρ).bind λo=>match o with
   |.nx ρ'=>zBd c F n ρ'
   |.ct ρ'=>zBd c F n ρ'
   |.bk ρ'=>some (.nx ρ')
   |.rt d=>some (.rt d)
   |.ro s=>some (.ro s)
   |.rm d ρ=>some (.rm d ρ)
  else some (.nx ρ)
theorem zN3 (n:Nat) {c:Expr} {body:List Stmt} (hp:PassesOwn (model X.prog X.w) X.A X.env X.xe) (hc:SB X c p) (hb:SSs X body F):SS X (.While c body [] pos) (λρ=>zBd p F n ρ):=
 ym (zJP hp hc hb) λE σ H=>by
  rintro ⟨G0,H0,G,ρ,o,st,ef,k⟩
  refine ⟨λm σ' H'=>∃ G' ρ',StR X.K G0 H0 G' H' ρ' σ'/\zBd p F m ρ'=some o,⟨n,G,ρ,st,ef⟩,?_⟩
  rintro m σ2 H2 ⟨G2,ρ2,st2,ef2⟩
  cases m with
  |zero=>cases ef2
  |succ m=>
   obtain ⟨b,e1,e2⟩:=zUX.mp ef2
   refine ⟨G2,ρ2,b,st2.bs.gh,st2.er,e1,λG3 H3 t3=>?_⟩
   cases b with
   |false=>
    rw [zVD zU7] at e2 ⊢
    cases e2
    exact k σ2 G3 H3 (st2.step t3)
   |true=>
    rw [zUp rfl] at e2 ⊢
    obtain ⟨o3,e5,e6⟩:=zUX.mp e2
    refine ⟨λσ' H'=>∃ G' ρ',StR X.K G0 H0 G' H' ρ' σ'/\zBd p F m ρ'=some o,λσ' H' h=>⟨m,zW0 _,h⟩,G0,H0,G3,ρ2,o3,st2.step t3,e5,?_⟩
    cases o3 with
    |nx ρ'=>exact λσ5 G5 H5 st5=>⟨G5,ρ',st5,e6⟩
    |ct ρ'=>exact λσ5 G5 H5 st5=>⟨G5,ρ',st5,e6⟩
    |bk ρ'=>cases e6;exact k
    |rt d=>cases e6;exact k
    |ro d=>cases e6;exact k
    |rm d ρ=>cases e6;exact k
theorem zQt {K:Fg} {G:Hp} {a:Addr} {vs:List V} {ds:List D} (h:SqL K G a vs) (r:Reps K G ds vs):zNe K G (Itl K a) ds where
 go:=λi H s hi=>⟨vs,vs[i]'(by rw [<- r.length];exact hi),s.seq h,by simp [<- r.length,hi]⟩
 stop:=λi H s hi=>⟨vs,s.seq h,by rw [<- r.length];exact hi⟩
 yld:=λi G1 H x H' s1 s hi y=>by
  obtain ⟨rfl,y⟩:=y
  refine ⟨G1,zd.refl s,λd e=>?_⟩
  obtain ⟨v,e1,e2⟩:=r.get e
  have:=y vs ((s1.trans s).seq h)
  rw [e1] at this;cases this
  exact Rep.mono s1 _ _ e2
theorem zTI {K:Fg} {G:Hp} {a:Addr} {vs:List V} {ds:List D} (h:SqT K G a vs) (r:Reps K G ds vs):zNe K G (Itt K a) ds where
 go:=λi H s hi=>⟨vs,vs[i]'(by rw [<- r.length];exact hi),qT s h,by simp [<- r.length,hi]⟩
 stop:=λi H s hi=>⟨vs,qT s h,by rw [<- r.length];exact hi⟩
 yld:=λi G1 H x H' s1 s hi y=>by
  obtain ⟨rfl,y⟩:=y
  refine ⟨G1,zd.refl s,λd e=>?_⟩
  obtain ⟨v,e1,e2⟩:=r.get e
  have:=y vs (qT (s1.trans s) h)
  rw [e1] at this;cases this
  exact Rep.mono s1 _ _ e2
noncomputable def rng (lo:Int) (n:Nat):List D:=(List.range n).map λ(i:Nat)=>D.int (lo+(i:Int))
theorem zPj {K:Fg} {G:Hp} (lo:Int) (n:Nat):zNe K G (L2.Itr lo n) (rng lo n) where
 go:=λi H s hi=>by show i<n;simpa [rng] using hi
 stop:=λi H s hi=>by show n<=i;simpa [rng] using hi
 yld:=λi G1 H x H' s1 s hi y=>by
  obtain ⟨rfl,rfl⟩:=y
  refine ⟨G1,zd.refl s,λd e=>?_⟩
  simp only [rng,zVK,zUi,zWj] at e hi
  rw [List.getElem?_range hi] at e
  cases e
  exact yC.mpr rfl
noncomputable def asL:D->Option (List D)
 |.lst xs=>some xs
 |_=>none
noncomputable def asT:D->Option (List D)
 |.tup xs=>some xs
 |_=>none
noncomputable def iL (f:ROd):ROl:=λρ=>(f ρ).bind asL
noncomputable def iT (f:ROd):ROl:=λρ=>(f ρ).bind asT
variable {tg:Expr}
theorem zBO (h:SE X e f):SI X tg e (iL f):=zN2 (zQN h) λσ H R=>by
 rintro ⟨G,ρ,ds,s,er,ef,k⟩
 obtain ⟨d,e1,e2⟩:=zUX.mp ef
 cases d with
 |lst xs=>
  cases e2
  refine ⟨G,ρ,_,s,er,e1,λv G' H' t r=>?_⟩
  obtain ⟨a,vs,rfl,q,rs⟩:=zAS.mp r
  exact ⟨a,rfl,⟨vs,t.s.seq q⟩,k _ G' H' t (zQt q rs)⟩
 |_=>cases e2
theorem zCp (h:SE X e f):SI X tg e (iT f):=zN2 (zSm h) λσ H R=>by
 rintro ⟨G,ρ,ds,s,er,ef,k⟩
 obtain ⟨d,e1,e2⟩:=zUX.mp ef
 cases d with
 |tup xs=>
  cases e2
  refine ⟨G,ρ,_,s,er,e1,λv G' H' t r=>?_⟩
  obtain ⟨a,vs,rfl,q,rs⟩:=zCc r
  exact ⟨a,rfl,⟨vs,qT t.s q⟩,k _ G' H' t (zTI q rs)⟩
 |_=>cases e2
noncomputable def inR (j:Int):Bool:=decide (-(2 ^ 62)<=j) && decide (j<2 ^ 62)
theorem zFl {j:Int} (h:inR j=true) : -(2 ^ 62)<=j/\j<2 ^ 62:=by simpa [inR] using h
noncomputable def iR1 (f:ROl):ROl:=λρ=>(f ρ).bind λds=>match ds with
 | [.int j]=>if inR j=true then some (rng 0 j.toNat) else none
 |_=>none
noncomputable def iR2 (f:ROl):ROl:=λρ=>(f ρ).bind λds=>match ds with
 | [.int i,.int j]=>if (inR i && inR j)=true then some (rng i (j-i).toNat) else none
 |_=>none
theorem yn {p pos:Pos} (hg:Gl X "range") (hm:X.mg "range" = none) (ha:SA X [a] fl) (hs:starEach [a] X.env = [(false,eval a X.env)]:=by rfl):SI X tg (.Call (.Name "range" p) [a] [] pos) (iR1 fl):=
 zN2 (zLM hg hm ha.pa hs) λσ H R=>by
  rintro ⟨G,ρ,ds,s,er,ef,k⟩
  obtain ⟨xs,e1,e2⟩:=zUX.mp ef
  split at e2
  ·rename_i j
   split at e2
   ·rename_i hj
    cases e2
    refine ⟨G,ρ,_,s,er,e1,λvs G' H' t r=>?_⟩
    obtain ⟨v,r',rfl,r1,r2⟩:=za.mp r
    have:=yR.mp r2
    subst this
    exact ⟨j,by rw [yC.mp r1],(zFl hj).1,(zFl hj).2,k _ G' H' t (zPj _ _)⟩
   ·cases e2
  ·cases e2
theorem zLq {p pos:Pos} (hg:Gl X "range") (hm:X.mg "range" = none) (ha:SA X [a,b] fl) (hs:starEach [a,b] X.env = [(false,eval a X.env),(false,eval b X.env)]:=by rfl) (hs2:starEach [b] X.env = [(false,eval b X.env)]:=by rfl):SI X tg (.Call (.Name "range" p) [a,b] [] pos) (iR2 fl):=
 zN2 (zLN hg hm ha.pa hs hs2) λσ H R=>by
  rintro ⟨G,ρ,ds,s,er,ef,k⟩
  obtain ⟨xs,e1,e2⟩:=zUX.mp ef
  split at e2
  ·rename_i i j
   split at e2
   ·rename_i hj
    cases e2
    rw [zVR] at hj
    refine ⟨G,ρ,_,s,er,e1,λvs G' H' t r=>?_⟩
    obtain ⟨v,r',rfl,r1,r2⟩:=za.mp r
    obtain ⟨v',r'',rfl,r3,r4⟩:=za.mp r2
    have:=yR.mp r4
    subst this
    exact ⟨i,j,by rw [yC.mp r1,yC.mp r3],⟨(zFl hj.1).1,(zFl hj.1).2,(zFl hj.2).1,(zFl hj.2).2⟩,k _ G' H' t (zPj _ _)⟩
   ·cases e2
  ·cases e2
noncomputable def gL (ρ:Rho) (i:Nat):Option (List D):=match ρ[i]? with
 |some (.l xs)=>some xs
 |_=>none
theorem zN4 {ρ:Rho} {i:Nat} {xs:List D} (h:gL ρ i=some xs):ρ[i]?=some (.l xs):=by
 unfold gL at h
 split at h
 ·cases h;assumption
 ·cases h
end
noncomputable def zDW (N:List Str) (F:ROo) (ds:List D):Option D:=(F (ds.map Sl.v++List.replicate (N.length-ds.length) .un)).bind λo=>match o with
 |.rt d=>some d
 |.nx _=>some .non
 |_=>none
theorem zGU {K:Fg} {G H:Hp} {N:List Str} {ds:List D} {vs:List V} (r:Reps K G ds vs):Er K G H (ds.map Sl.v++List.replicate (N.length-ds.length) .un) (L2.zBj N vs):=by
 have hl:=r.length
 have low:∀ {i:Nat} {s:Sl},(ds.map Sl.v++List.replicate (N.length-ds.length) .un)[i]?=some s->s = .un\/∃ d,s = .v d/\ds[i]?=some d:=λ{i s} h=>by
  by_cases hi:i<ds.length
  ·rw [zU5 (by simpa using hi),zVK] at h
   cases q:ds[i]? with
   |none=>rw [q] at h;cases h
   |some d=>rw [q] at h;cases h;exact .inr ⟨d,rfl,rfl⟩
  ·rw [zU8 (by simpa using hi),zVT] at h
   split at h<;>cases h
   exact .inl rfl
 refine ⟨by simp [L2.zBj,hl],λi d h=>?_,λi u h o=>?_,λi j s t a b ne h1 o1 h2 o2 q1 q2=>?_⟩
 ·rcases low h with z|⟨d',z,q⟩
  ·cases z
  ·cases z
   obtain ⟨v,e1,e2⟩:=r.get q
   have hi:i<vs.length:=(zUs.mp e1).1
   refine ⟨v,?_,e2⟩
   unfold L2.zBj
   rw [zU5 (by simpa using hi),zVK,e1];rfl
 ·rcases low h with z|⟨d',z,q⟩<;>subst z<;>cases o
 ·rcases low h1 with z|⟨d',z,q⟩<;>subst z<;>cases o1
theorem zTJ {P:Program} {w:World} {K:Fg} {mg:MGt} {base:Heap} {x qual:Str} {st:Stmt} {fa:Addr} {fd:FuncData} {N ps:List Str} {k:Nat} {F:ROo} {f:List D->Option D}
  (FF:Fun K x qual st fa fd) (S:zT N ps (zH st))
  (hbody:∀ (cdv:Value) (A:Around) (outer:List Env) (s:Shared) (H:Hp),zAO k (A.deeper (envOfC qual (zH st) s.heap.objs.size fa cdv))->SSs (zGM CX0 P w K mg base N qual (zH st) fa cdv A outer s H E0).nox (yE st) F)
  (hf:∀ ds d,ds.length=ps.length->f ds=some d->zDW N F ds=some d):zCb P w K mg base CX0 (k+1) fa fd ps (spD K f ps.length):=by
 refine FF.ok S (λvs H Q E h=>?_) (λcdv A outer s H vs Q E hr h=>?_)
 ·obtain ⟨G,ds,d,_,r,hn,_⟩:=h
  rw [<- r.length,hn]
 ·obtain ⟨G,ds,d,sm,r,hn,ef,kk⟩:=h
  have h1:SSs (zGM CX0 P w K mg base N qual (zH st) fa cdv A outer s H E).nox (yE st) F:=hbody cdv A outer s H hr
  refine ⟨_,h1,?_⟩
  obtain ⟨o,e1,e2⟩:=zUX.mp (hf ds d hn ef)
  have er:=zGU (N:=N) (H:=H) r
  refine ⟨G,H,G,_,o,⟨er,⟨sm,zi.refl _,zi.refl _,λb o e n=>by rw [e] at n;cases n⟩,λi u a h1 h2 h3=>?_⟩,e1,?_⟩
  ·obtain ⟨a',u',e3,e4,e5⟩:=er.ownAt h1 h2
   exfalso
   by_cases hi:i<ds.length
   ·rw [zU5 (by simpa using hi),zVK] at h1
    cases q:ds[i]? with
    |none=>rw [q] at h1;cases h1
    |some d=>rw [q] at h1;cases h1;cases h2
   ·rw [zU8 (by simpa using hi),zVT] at h1
    split at h1<;>cases h1
    cases h2
  ·cases o with
   |rt d'=>
    cases e2
    exact λv G' H' b r'=>kk v G' H' ⟨b.gg,b.hh,b.gh,b.fr⟩ r'
   |nx ρ=>
    cases e2
    exact λσ' G' H' st'=>kk .non G' H' ⟨st'.bs.gg,st'.bs.hh,st'.bs.gh,st'.bs.fr⟩ (zAQ.mpr rfl)
   |bk ρ=>cases e2
   |ct ρ=>cases e2
   |ro ρ=>cases e2
   |rm d ρ=>cases e2
end RD
namespace RD
open PySem PySem.Spec PyProof.Rows L2 SeqAt
mutual
noncomputable def eqD:D->D->Bool
 |.non,.non=>true
 |.bl a,.bl b=>a == b
 |.bl a,.int i=>(if a then 1 else 0) == i
 |.int i,.bl a=>i == (if a then 1 else 0)
 |.int i,.int j=>i == j
 |.str x,.str y=>x == y
 |.tup xs,.tup ys=>eqL xs ys
 |.lst xs,.lst ys=>eqL xs ys
 |_,_=>false
noncomputable def eqL:List D->List D->Bool
 | [],[]=>true
 |x::xs,y::ys=>eqD x y && eqL xs ys
 |_,_=>false
end
mutual
noncomputable def dep:D->Nat
 |.tup xs=>depL xs+1
 |.lst xs=>depL xs+1
 |_=>0
noncomputable def depL:List D->Nat
 | []=>0
 |x::xs=>max (dep x) (depL xs)
end
mutual
theorem eqD_refl:∀ d:D,eqD d d=true
 |.non=>by simp [eqD]
 |.bl _=>by simp [eqD]
 |.int _=>by simp [eqD]
 |.str _=>by simp [eqD]
 |.tup xs=>by simp only [eqD];exact eqL_refl xs
 |.lst xs=>by simp only [eqD];exact eqL_refl xs
theorem eqL_refl:∀ d:List D,eqL d d=true
 | []=>by simp [eqL]
 |x::xs=>by simp only [eqL,eqD_refl x,eqL_refl xs];rfl
end
theorem zCq:∀ {xs:List D} {i:Nat} {d:D},xs[i]?=some d->dep d<=depL xs
 | [],_,_,h=>by simp at h
 |x::xs,0,d,h=>by simp at h;subst h;simp only [depL];omega
 |x::xs,i+1,d,h=>by
  have:=zCq (xs:=xs) (i:=i) (by simpa using h)
  simp only [depL];omega
noncomputable def eqI (xs ys:List D) (j:Nat):Bool:=match xs[j]?,ys[j]? with
 |some x,some y=>eqD x y
 |_,_=>true
theorem zIa:∀ xs ys:List D,((List.range (min xs.length ys.length)).all (eqI xs ys) && xs.length == ys.length)=eqL xs ys
 | [],[]=>by simp [eqL]
 | [],y::ys=>by simp [eqL]
 |x::xs,[]=>by simp [eqL]
 |x::xs,y::ys=>by
  have ih:=zIa xs ys
  have e1:min (x::xs).length (y::ys).length=min xs.length ys.length+1:=by simp only [zUa];omega
  have e2:((List.range (min xs.length ys.length)).map Nat.succ).all (eqI (x::xs) (y::ys))=(List.range (min xs.length ys.length)).all (eqI xs ys):=by
   rw [List.all_map]
   congr 1
  rw [e1,List.range_succ_eq_map,List.all_cons,e2]
  have e3:eqI (x::xs) (y::ys) 0=eqD x y:=by simp [eqI]
  have e4:((x::xs).length == (y::ys).length)=(xs.length == ys.length):=by
   simp only [zUa]
   rw [zW3];simp
  rw [e3,e4,Bool.and_assoc,ih]
  simp only [eqL]
theorem zN5 (xs ys:List D) (h:xs.length=ys.length):(List.range xs.length).all (eqI xs ys)=eqL xs ys:=by
 rw [<- zIa xs ys,h,Nat.min_self]
 simp
theorem zLr:∀ xs ys:List D,xs.length≠ys.length->eqL xs ys=false
 | [],[],h=>absurd rfl h
 | [],y::ys,h=>by simp [eqL]
 |x::xs,[],h=>by simp [eqL]
 |x::xs,y::ys,h=>by
  simp only [eqL,zLr xs ys (λz=>h (by simp [z])),Bool.and_false]
section
variable {X:Cx} {pins:PNt} {σ:L2.St} {G H:Hp} {s:Shared}
theorem zJZ (I:Inv X pins σ H s) {a:Addr} {xs ys:List V} (h1:SqT X.K H a xs) (h2:SqL X.K H a ys):False:=by
 obtain ⟨_,_,⟨o,e,hc,_⟩,_⟩:=I.tuple h1
 obtain ⟨_,_,⟨o',n',e',hc',_⟩,_⟩:=I.list h2
 rw [e] at e';cases e'
 rw [hc] at hc'
 exact absurd hc' (by decide +kernel)
mutual
theorem Rep.inj (I:Inv X pins σ H s) (sm:zi G H):∀ (d d':D) (v:V),Rep X.K G d v->Rep X.K G d' v->d=d'
 |.non,d',v,h,h'=>by
  have e:=zAQ.mp h;subst e
  cases d'<;>simp_all [Rep]
 |.bl b,d',v,h,h'=>by
  have e:=yQ.mp h;subst e
  cases d'<;>simp_all [Rep]
 |.int b,d',v,h,h'=>by
  have e:=yC.mp h;subst e
  cases d'<;>simp_all [Rep]
 |.str b,d',v,h,h'=>by
  have e:=zAR.mp h;subst e
  cases d'<;>simp_all [Rep]
 |.tup ds,d',v,h,h'=>by
  obtain ⟨a,vs,rfl,q,r⟩:=zCc h
  cases d' with
  |tup ds'=>
   obtain ⟨a',vs',e,q',r'⟩:=zCc h'
   cases e
   have e2:=I.tuple_inj (qT sm q) (qT sm q')
   subst e2
   rw [Reps.inj I sm ds ds' vs r r']
  |lst ds'=>
   obtain ⟨a',vs',e,q',r'⟩:=zAS.mp h'
   cases e
   exact (zJZ I (qT sm q) (sm.seq q')).elim
  |_=>simp [Rep] at h'
 |.lst ds,d',v,h,h'=>by
  obtain ⟨a,vs,rfl,q,r⟩:=zAS.mp h
  cases d' with
  |lst ds'=>
   obtain ⟨a',vs',e,q',r'⟩:=zAS.mp h'
   cases e
   have e2:=I.list_inj (sm.seq q) (sm.seq q')
   subst e2
   rw [Reps.inj I sm ds ds' vs r r']
  |tup ds'=>
   obtain ⟨a',vs',e,q',r'⟩:=zCc h'
   cases e
   exact (zJZ I (qT sm q') (sm.seq q)).elim
  |_=>simp [Rep] at h'
theorem Reps.inj (I:Inv X pins σ H s) (sm:zi G H):∀ (d d':List D) (v:List V),Reps X.K G d v->Reps X.K G d' v->d=d'
 |[],d',v,h,h'=>by
  have e:=yR.mp h;subst e
  cases d' with
  |nil=>rfl
  |cons _ _=>obtain ⟨_,_,e,_⟩:=za.mp h';cases e
 |d::ds,d',v,h,h'=>by
  obtain ⟨x,r,rfl,a,b⟩:=za.mp h
  cases d' with
  |nil=>cases yR.mp h'
  |cons d1 ds1=>
   obtain ⟨x',r',e,a',b'⟩:=za.mp h'
   cases e
   rw [Rep.inj I sm d d1 x a a',Reps.inj I sm ds ds1 r b b']
end
theorem zEC {xs:List V} {us:List Value} {i:Nat} {u:Value} (r:yP xs us) (e:us[i]?=some u):∃ x,xs[i]?=some x/\yr x u:=by
 have hl:i<xs.length:=by rw [r.length];exact (zUs.mp e).1
 obtain ⟨u',e1,q⟩:=r.get (i:=i) (x:=xs[i]) (by simp [hl])
 rw [e] at e1;cases e1
 exact ⟨xs[i],by simp [hl],q⟩
theorem zJa {xs ys:List D} {vs ws:List V} {its its2:List Value} (r1:Reps X.K G xs vs) (q1:yP vs its) (r2:Reps X.K G ys ws) (q2:yP ws its2) {j:Nat} (h1:j<its.toArray.size) (h2:j<its2.toArray.size) :
  ∃ x y v w,xs[j]?=some x/\ys[j]?=some y/\Rep X.K G x v/\Rep X.K G y w/\yr v its.toArray[j]/\yr w its2.toArray[j]:=by
 obtain ⟨v,e1,p1⟩:=zEC (i:=j) (u:=its.toArray[j]) q1 (by simp at h1 ⊢)
 obtain ⟨w,e2,p2⟩:=zEC (i:=j) (u:=its2.toArray[j]) q2 (by simp at h2 ⊢)
 obtain ⟨x,e3,p3⟩:=r1.got e1
 obtain ⟨y,e4,p4⟩:=r2.got e2
 exact ⟨x,y,v,w,e3,e4,p3,p4,p1,p2⟩
theorem zEa (A:Around):A.in1.units=A.units+1:=rfl
theorem zLs (I:Inv X pins σ H s) (sm:zi G H):∀ (n:Nat) (A:Around) (x y:D) (v w:V) (u1 u2:Value),min (dep x) (dep y)<=n->A.units+n<cLine->zCC X.K G H x v->zCC X.K G H y w->yr v u1->yr w u2 ->
  RcAt A s u1 u2 (eqD x y)/\RcNeAt A s u1 u2 (!eqD x y)/\(Rep X.K G x v->Rep X.K G y w->EqAt A s u1 u2 (eqD x y)):=by
 intro n
 induction n with
 |zero=>?_
 |succ n ih=>?_
 all_goals
  intro A x y v w u1 u2 hd hu rx ry q1 q2
  have hu0:A.units<cLine:=by omega
  cases x with
  |non=>
   rw [rx.non] at q1;cases q1
   cases y with
   |non=>rw [ry.non] at q2;cases q2;exact ⟨RcAt.none_none,RcNeAt.none_none,λ_ _=>EqAt.same _⟩
   |bl b=>rw [ry.bl] at q2;cases q2;exact ⟨RcAt.none_bool b,RcNeAt.none_bool b,λ_ _=>EqAt.none_bool b⟩
   |int b=>rw [ry.int] at q2;obtain ⟨t,rfl⟩:=q2;exact ⟨RcAt.none_int b t,RcNeAt.none_int b t,λ_ _=>EqAt.none_int b t⟩
   |str b=>rw [ry.str] at q2;obtain ⟨t,rfl⟩:=q2;exact ⟨RcAt.none_str b t,RcNeAt.none_str b t,λ_ _=>EqAt.none_str b t⟩
   |tup ys=>obtain ⟨a,vs,rfl,q,r⟩:=ry.tup sm;cases q2;obtain ⟨its,_,p,_⟩:=I.tuple q;exact ⟨RcAt.none_tuple p hu0,RcNeAt.none_tuple p hu0,λ_ _=>EqAt.none_tuple p hu0⟩
   |lst ys=>obtain ⟨a,vs,rfl,q,r⟩:=ry.list sm;cases q2;obtain ⟨its,_,p,_⟩:=I.list q;exact ⟨RcAt.none_list p.isList hu0,RcNeAt.none_list p.isList hu0,λ_ _=>EqAt.none_list p.isList hu0⟩
  |bl c=>
   rw [rx.bl] at q1;cases q1
   cases y with
   |non=>rw [ry.non] at q2;cases q2;exact ⟨RcAt.bool_none c,RcNeAt.bool_none c,λ_ _=>EqAt.bool_none c⟩
   |bl b=>rw [ry.bl] at q2;cases q2;exact ⟨RcAt.bool_bool c b,RcNeAt.bool_bool c b,λ_ _=>EqAt.bool_bool c b⟩
   |int b=>rw [ry.int] at q2;obtain ⟨t,rfl⟩:=q2;exact ⟨RcAt.bool_int c b t,RcNeAt.bool_int c b t,λ_ _=>EqAt.bool_int c b t⟩
   |str b=>rw [ry.str] at q2;obtain ⟨t,rfl⟩:=q2;exact ⟨RcAt.bool_str c b t,RcNeAt.bool_str c b t,λ_ _=>EqAt.bool_str c b t⟩
   |tup ys=>obtain ⟨a,vs,rfl,q,r⟩:=ry.tup sm;cases q2;obtain ⟨its,_,p,_⟩:=I.tuple q;exact ⟨RcAt.bool_tuple c p hu0,RcNeAt.bool_tuple c p hu0,λ_ _=>EqAt.bool_tuple c p hu0⟩
   |lst ys=>obtain ⟨a,vs,rfl,q,r⟩:=ry.list sm;cases q2;obtain ⟨its,_,p,_⟩:=I.list q;exact ⟨RcAt.bool_list c p.isList hu0,RcNeAt.bool_list c p.isList hu0,λ_ _=>EqAt.bool_list c p.isList hu0⟩
  |int c=>
   rw [rx.int] at q1;obtain ⟨t1,rfl⟩:=q1
   cases y with
   |non=>rw [ry.non] at q2;cases q2;exact ⟨RcAt.int_none c t1,RcNeAt.int_none c t1,λ_ _=>EqAt.int_none c t1⟩
   |bl b=>rw [ry.bl] at q2;cases q2;exact ⟨RcAt.int_bool c t1 b,RcNeAt.int_bool c t1 b,λ_ _=>EqAt.int_bool c t1 b⟩
   |int b=>rw [ry.int] at q2;obtain ⟨t,rfl⟩:=q2;exact ⟨RcAt.int_int c t1 b t,RcNeAt.int_int c t1 b t,λ_ _=>EqAt.int_int c t1 b t⟩
   |str b=>rw [ry.str] at q2;obtain ⟨t,rfl⟩:=q2;exact ⟨RcAt.int_str c t1 b t,RcNeAt.int_str c t1 b t,λ_ _=>EqAt.int_str c t1 b t⟩
   |tup ys=>obtain ⟨a,vs,rfl,q,r⟩:=ry.tup sm;cases q2;obtain ⟨its,_,p,_⟩:=I.tuple q;exact ⟨RcAt.int_tuple c t1 p hu0,RcNeAt.int_tuple c t1 p hu0,λ_ _=>EqAt.int_tuple c t1 p hu0⟩
   |lst ys=>obtain ⟨a,vs,rfl,q,r⟩:=ry.list sm;cases q2;obtain ⟨its,_,p,_⟩:=I.list q;exact ⟨RcAt.int_list c t1 p.isList hu0,RcNeAt.int_list c t1 p.isList hu0,λ_ _=>EqAt.int_list c t1 p.isList hu0⟩
  |str c=>
   rw [rx.str] at q1;obtain ⟨t1,rfl⟩:=q1
   cases y with
   |non=>rw [ry.non] at q2;cases q2;exact ⟨RcAt.str_none c t1,RcNeAt.str_none c t1,λ_ _=>EqAt.str_none c t1⟩
   |bl b=>rw [ry.bl] at q2;cases q2;exact ⟨RcAt.str_bool c t1 b,RcNeAt.str_bool c t1 b,λ_ _=>EqAt.str_bool c t1 b⟩
   |int b=>rw [ry.int] at q2;obtain ⟨t,rfl⟩:=q2;exact ⟨RcAt.str_int c t1 b t,RcNeAt.str_int c t1 b t,λ_ _=>EqAt.str_int c t1 b t⟩
   |str b=>rw [ry.str] at q2;obtain ⟨t,rfl⟩:=q2;exact ⟨RcAt.str_str c t1 b t,RcNeAt.str_str c t1 b t,λ_ _=>EqAt.str_str c t1 b t⟩
   |tup ys=>obtain ⟨a,vs,rfl,q,r⟩:=ry.tup sm;cases q2;obtain ⟨its,_,p,_⟩:=I.tuple q;exact ⟨RcAt.str_tuple c t1 p hu0,RcNeAt.str_tuple c t1 p hu0,λ_ _=>EqAt.str_tuple c t1 p hu0⟩
   |lst ys=>obtain ⟨a,vs,rfl,q,r⟩:=ry.list sm;cases q2;obtain ⟨its,_,p,_⟩:=I.list q;exact ⟨RcAt.str_list c t1 p.isList hu0,RcNeAt.str_list c t1 p.isList hu0,λ_ _=>EqAt.str_list c t1 p.isList hu0⟩
  |tup xs=>
   obtain ⟨a1,vs1,rfl,qq1,rr1⟩:=rx.tup sm;cases q1;obtain ⟨its1,vv1,p1,_⟩:=I.tuple qq1
   cases y with
   |non=>rw [ry.non] at q2;cases q2;exact ⟨RcAt.tuple_none p1 hu0,RcNeAt.tuple_none p1 hu0,λ_ _=>EqAt.tuple_none p1 hu0⟩
   |bl b=>rw [ry.bl] at q2;cases q2;exact ⟨RcAt.tuple_bool b p1 hu0,RcNeAt.tuple_bool b p1 hu0,λ_ _=>EqAt.tuple_bool b p1 hu0⟩
   |int b=>rw [ry.int] at q2;obtain ⟨t,rfl⟩:=q2;exact ⟨RcAt.tuple_int b t p1 hu0,RcNeAt.tuple_int b t p1 hu0,λ_ _=>EqAt.tuple_int b t p1 hu0⟩
   |str b=>rw [ry.str] at q2;obtain ⟨t,rfl⟩:=q2;exact ⟨RcAt.tuple_str b t p1 hu0,RcNeAt.tuple_str b t p1 hu0,λ_ _=>EqAt.tuple_str b t p1 hu0⟩
   |lst ys=>obtain ⟨a,vs,rfl,q,r⟩:=ry.list sm;cases q2;obtain ⟨its,_,p,_⟩:=I.list q;exact ⟨RcAt.tuple_list p1 p.isList hu0,RcNeAt.tuple_list p1 p.isList hu0,λ_ _=>EqAt.tuple_list p1 p.isList hu0⟩
   |tup ys=>
    first
    |(exfalso;simp only [dep] at hd;omega)
    |(obtain ⟨a2,vs2,rfl,qq2,rr2⟩:=ry.tup sm;cases q2;obtain ⟨its2,vv2,p2,_⟩:=I.tuple qq2
      have he:∀ j (h1:j<its1.toArray.size) (h2:j<its2.toArray.size),EqAt A.in1 s its1.toArray[j] its2.toArray[j] (eqI xs ys j):=λj h1 h2=>by
       obtain ⟨x,y,v,w,e1,e2,r1,r2,z1,z2⟩:=zJa rr1 vv1 rr2 vv2 h1 h2
       have d1:=zCq e1
       have d2:=zCq e2
       have:=(ih A.in1 x y v w _ _ (by simp only [dep] at hd;omega) (by rw [zEa];omega) (.fr r1) (.fr r2) z1 z2).2.2 r1 r2
       simpa only [eqI,e1,e2] using this
      have el:((List.range (min its1.toArray.size its2.toArray.size)).all (eqI xs ys) && its1.toArray.size == its2.toArray.size)=eqD (.tup xs) (.tup ys):=by
       have l1:=rr1.length;have l2:=rr2.length;have l3:=vv1.length;have l4:=vv2.length
       rw [zUh,zUh,<- l3,<- l4,<- l1,<- l2]
       simp only [eqD];exact zIa xs ys
      have e1:RcAt A s (.ref a1) (.ref a2) (eqD (.tup xs) (.tup ys)):=by rw [<- el];exact RcAt.tuples p1 p2 hu0 he
      have e2:RcNeAt A s (.ref a1) (.ref a2) (!eqD (.tup xs) (.tup ys)):=by rw [<- el];exact RcNeAt.tuples p1 p2 hu0 he
      refine ⟨e1,e2,λh1 h2=>?_⟩
      by_cases z:a1=a2
      ·subst z
       have:=Rep.inj I sm _ _ _ h1 h2
       rw [<- this,eqD_refl]
       exact EqAt.same _
      ·exact EqAt.of_refs z e1)
  |lst xs=>
   obtain ⟨a1,vs1,rfl,qq1,rr1⟩:=rx.list sm;cases q1;obtain ⟨its1,vv1,p1,_⟩:=I.list qq1
   cases y with
   |non=>rw [ry.non] at q2;cases q2;exact ⟨RcAt.list_none p1.isList hu0,RcNeAt.list_none p1.isList hu0,λ_ _=>EqAt.list_none p1.isList hu0⟩
   |bl b=>rw [ry.bl] at q2;cases q2;exact ⟨RcAt.list_bool b p1.isList hu0,RcNeAt.list_bool b p1.isList hu0,λ_ _=>EqAt.list_bool b p1.isList hu0⟩
   |int b=>rw [ry.int] at q2;obtain ⟨t,rfl⟩:=q2;exact ⟨RcAt.list_int b t p1.isList hu0,RcNeAt.list_int b t p1.isList hu0,λ_ _=>EqAt.list_int b t p1.isList hu0⟩
   |str b=>rw [ry.str] at q2;obtain ⟨t,rfl⟩:=q2;exact ⟨RcAt.list_str b t p1.isList hu0,RcNeAt.list_str b t p1.isList hu0,λ_ _=>EqAt.list_str b t p1.isList hu0⟩
   |tup ys=>obtain ⟨a,vs,rfl,q,r⟩:=ry.tup sm;cases q2;obtain ⟨its,_,p,_⟩:=I.tuple q;exact ⟨RcAt.list_tuple p1.isList p hu0,RcNeAt.list_tuple p1.isList p hu0,λ_ _=>EqAt.list_tuple p1.isList p hu0⟩
   |lst ys=>
    first
    |(exfalso;simp only [dep] at hd;omega)
    |(obtain ⟨a2,vs2,rfl,qq2,rr2⟩:=ry.list sm;cases q2;obtain ⟨its2,vv2,p2,_⟩:=I.list qq2
      have l1:=rr1.length;have l2:=rr2.length;have l3:=vv1.length;have l4:=vv2.length
      have he:∀ j (h1:j<its1.toArray.size) (h2:j<its2.toArray.size),EqAt A.in1 s its1.toArray[j] its2.toArray[j] (eqI xs ys j):=λj h1 h2=>by
       obtain ⟨x,y,v,w,e1,e2,r1,r2,z1,z2⟩:=zJa rr1 vv1 rr2 vv2 h1 h2
       have d1:=zCq e1
       have d2:=zCq e2
       have:=(ih A.in1 x y v w _ _ (by simp only [dep] at hd;omega) (by rw [zEa];omega) (.fr r1) (.fr r2) z1 z2).2.2 r1 r2
       simpa only [eqI,e1,e2] using this
      have e12:RcAt A s (.ref a1) (.ref a2) (eqD (.lst xs) (.lst ys))/\RcNeAt A s (.ref a1) (.ref a2) (!eqD (.lst xs) (.lst ys)):=by
       by_cases hz:its1.length=its2.length
       ·have hsz:its1.toArray.size=its2.toArray.size:=by rw [zUh,zUh];exact hz
        have el:(List.range its1.toArray.size).all (eqI xs ys)=eqD (.lst xs) (.lst ys):=by
         rw [zUh,<- l3,<- l1]
         simp only [eqD];exact zN5 xs ys (by omega)
        rw [<- el]
        exact ⟨RcAt.lists p1.isList p2.isList hsz hu0 he,RcNeAt.lists p1.isList p2.isList hsz hu0 he⟩
       ·have hsz:(its1.toArray.size != its2.toArray.size)=true:=by rw [zUh,zUh];simpa using hz
        have el:eqD (.lst xs) (.lst ys)=false:=by simp only [eqD];exact zLr xs ys (by omega)
        rw [el]
        exact ⟨RcAt.lists_lengths p1.isList p2.isList hsz hu0,RcNeAt.lists_lengths p1.isList p2.isList hsz hu0⟩
      refine ⟨e12.1,e12.2,λh1 h2=>?_⟩
      by_cases z:a1=a2
      ·subst z
       have:=Rep.inj I sm _ _ _ h1 h2
       rw [<- this,eqD_refl]
       exact EqAt.same _
      ·exact EqAt.of_refs z e12.1)
end
noncomputable def eqO (x y:D):Option D:=if min (dep x) (dep y)<=20 then some (.bl (eqD x y)) else none
noncomputable def neO (x y:D):Option D:=if min (dep x) (dep y)<=20 then some (.bl (!eqD x y)) else none
section
variable {X:Cx}
theorem yt (hu:X.A.units+30<cLine):OpR X (compareOp .Eq) (rD X.K eqO):=by
 rintro pins s σ H x y v u Q I rx ry ⟨G,dx,dy,d,sm,r1,r2,e,k⟩
 unfold eqO at e
 split at e
 ·rename_i hd
  cases e
  exact (zLs I sm 20 X.A dx dy x y v u hd (by omega) r1 r2 rx ry).1 _ _ _ _ (zBr I (k _ G H (zd.refl sm) (yQ.mpr rfl)) rfl)
 ·cases e
theorem zLt (hu:X.A.units+30<cLine):OpR X (compareOp .NotEq) (rD X.K neO):=by
 rintro pins s σ H x y v u Q I rx ry ⟨G,dx,dy,d,sm,r1,r2,e,k⟩
 unfold neO at e
 split at e
 ·rename_i hd
  cases e
  exact (zLs I sm 20 X.A dx dy x y v u hd (by omega) r1 r2 rx ry).2.1 _ _ _ _ (zBr I (k _ G H (zd.refl sm) (yQ.mpr rfl)) rfl)
 ·cases e
open Classical in
noncomputable def hasV (ds:List D) (us:List Value) (dx:D) (u:Value):Bool:=decide (∃ (i:Nat) (d:D),us[i]?=some u/\ds[i]?=some d/\eqD d dx=true)
open Classical in
theorem zIb {pins:PNt} {σ:L2.St} {G H:Hp} {s:Shared} (I:Inv X pins σ H s) (sm:zi G H) {ds:List D} {vs:List V} {us:List Value} (r:Reps X.K G ds vs) (q:yP vs us) (dx:D) {i:Nat} {u:Value} {d:D} (h:us[i]?=some u) (hd:ds[i]?=some d):hasV ds us dx u=eqD d dx:=by
 unfold hasV
 cases e:eqD d dx with
 |true=>exact zVk ⟨i,d,h,hd,e⟩
 |false=>
  refine zVH ?_
  rintro ⟨j,d',h',hd',e'⟩
  obtain ⟨v1,e1,r1⟩:=r.get hd
  obtain ⟨v2,e2,r2⟩:=r.get hd'
  obtain ⟨u1,e3,q1⟩:=q.get e1
  obtain ⟨u2,e4,q2⟩:=q.get e2
  rw [h] at e3;cases e3
  rw [h'] at e4;cases e4
  have:=q1.inj q2
  subst this
  have:=Rep.inj I sm _ _ _ r1 r2
  subst this
  rw [e] at e';cases e'
theorem zED {pins:PNt} {σ:L2.St} {G H:Hp} {s:Shared} (I:Inv X pins σ H s) (sm:zi G H) {ds:List D} {vs:List V} {us:List Value} (r:Reps X.K G ds vs) (q:yP vs us) (dx:D):us.toArray.any (hasV ds us dx)=ds.any λd=>eqD d dx:=by
 rw [zW3]
 simp only [List.any_toArray,zWw]
 constructor
 ·rintro ⟨u,hu,h⟩
  obtain ⟨i,hi,rfl⟩:=zV8.mp hu
  obtain ⟨v,e1,p1⟩:=zEC (i:=i) (u:=us[i]) q (by simp [hi])
  obtain ⟨d,e2,p2⟩:=r.got e1
  rw [zIb I sm r q dx (i:=i) (u:=us[i]) (by simp [hi]) e2] at h
  exact ⟨d,zU3 e2,h⟩
 ·rintro ⟨d,hd,h⟩
  obtain ⟨i,hi,rfl⟩:=zV8.mp hd
  obtain ⟨v,e1,p1⟩:=r.get (i:=i) (d:=ds[i]) (by simp [hi])
  obtain ⟨u,e2,p2⟩:=q.get e1
  refine ⟨u,zU3 e2,?_⟩
  rw [zIb I sm r q dx (i:=i) (d:=ds[i]) e2 (by simp [hi])]
  exact h
noncomputable def inO (x y:D):Option D:=if dep x<=20 then match y with
  |.tup ys=>some (.bl (ys.any λd=>eqD d x))
  |.lst ys=>some (.bl (ys.any λd=>eqD d x))
  |_=>none
 else none
noncomputable def zQu (x y:D):Option D:=if dep x<=20 then match y with
  |.tup ys=>some (.bl (!ys.any λd=>eqD d x))
  |.lst ys=>some (.bl (!ys.any λd=>eqD d x))
  |_=>none
 else none
noncomputable def rIN (K:Fg) (op:D->D->Option D):R2:=λx y H Q=>∃ G dx dy d,zi G H/\Rep K G dx x/\zCC K G H dy y/\op dx dy=some d/\∀ v G' H',zd G H G' H'->Rep K G' d v->Q v H'
theorem zEE {pins:PNt} {σ:L2.St} {G H:Hp} {s:Shared} (I:Inv X pins σ H s) (sm:zi G H) (hu:X.A.units+30<cLine) {ds:List D} {vs:List V} {us:List Value} (r:Reps X.K G ds vs) (q:yP vs us) {dx:D} {x:V} {u:Value}
  (rx:Rep X.K G dx x) (qx:yr x u) (hd:dep dx<=20):∀ y,y∈us.toArray->EqAt X.A.in1 s y u (hasV ds us dx y):=λy hy=>by
 obtain ⟨i,hi,rfl⟩:=zV8.mp (by simpa using hy)
 obtain ⟨v,e1,p1⟩:=zEC (i:=i) (u:=us[i]) q (by simp [hi])
 obtain ⟨d,e2,p2⟩:=r.got e1
 rw [zIb I sm r q dx (i:=i) (u:=us[i]) (by simp [hi]) e2]
 exact (zLs I sm 20 X.A.in1 d dx v x us[i] u (by omega) (by rw [zEa];omega) (.fr p2) (.fr rx) p1 qx).2.2 p2 rx
theorem zPk (hu:X.A.units+30<cLine):OpR X (compareOp .In) (rIN X.K inO):=by
 rintro pins s σ H x y v u Q I rx ry ⟨G,dx,dy,d,sm,r1,r2,e,k⟩
 unfold inO at e
 split at e
 ·rename_i hd
  cases dy with
  |tup ys=>
   cases e
   obtain ⟨a,vs,rfl,q,r⟩:=r2.tup sm
   cases ry
   obtain ⟨its,vv,p,_⟩:=I.tuple q
   refine in_tupleAt _ p (zEE I sm hu r vv r1 rx hd) ?_
   rw [zED I sm r vv]
   exact (zBr I (k _ G H (zd.refl sm) (yQ.mpr rfl)) rfl)
  |lst ys=>
   cases e
   obtain ⟨a,vs,rfl,q,r⟩:=r2.list sm
   cases ry
   obtain ⟨its,vv,p,_⟩:=I.list q
   refine in_listAt _ p.isList (zEE I sm hu r vv r1 rx hd) ?_
   rw [zED I sm r vv]
   exact (zBr I (k _ G H (zd.refl sm) (yQ.mpr rfl)) rfl)
  |_=>cases e
 ·cases e
theorem zQv (hu:X.A.units+30<cLine):OpR X (compareOp .NotIn) (rIN X.K zQu):=by
 rintro pins s σ H x y v u Q I rx ry ⟨G,dx,dy,d,sm,r1,r2,e,k⟩
 unfold zQu at e
 split at e
 ·rename_i hd
  cases dy with
  |tup ys=>
   cases e
   obtain ⟨a,vs,rfl,q,r⟩:=r2.tup sm
   cases ry
   obtain ⟨its,vv,p,_⟩:=I.tuple q
   refine notIn_tupleAt _ p (zEE I sm hu r vv r1 rx hd) ?_
   rw [zED I sm r vv]
   exact (zBr I (k _ G H (zd.refl sm) (yQ.mpr rfl)) rfl)
  |lst ys=>
   cases e
   obtain ⟨a,vs,rfl,q,r⟩:=r2.list sm
   cases ry
   obtain ⟨its,vv,p,_⟩:=I.list q
   refine notIn_listAt _ p.isList (zEE I sm hu r vv r1 rx hd) ?_
   rw [zED I sm r vv]
   exact (zBr I (k _ G H (zd.refl sm) (yQ.mpr rfl)) rfl)
  |_=>cases e
 ·cases e
variable {a b:Expr} {f g:ROd} {pos:Pos}
theorem zLu {K:Fg} {op:D->D->Option D} {σ:L2.St} {H:Hp} {Q:VK} (h:tE K (b2 f g op) σ H Q):tOp (rIN K op) (tE K f) (tR K g) σ H Q:=by
 obtain ⟨G,ρ,d,s,er,ef,k⟩:=h
 obtain ⟨x,e1,ef⟩:=zUX.mp ef
 obtain ⟨y,e2,ef⟩:=zUX.mp ef
 refine ⟨G,ρ,x,s,er,e1,λv1 G1 H1 t1 r1=>⟨G1,ρ,y,t1.s,er.step t1,e2,λv2 G2 H2 t2 r2=>?_⟩⟩
 exact ⟨G2,x,y,d,t2.s,Rep.mono t2.g _ _ r1,r2,ef,λv G' H' t r=>k v G' H' ((t1.trans t2).trans t) r⟩
theorem zTK (hu:X.A.units+30<cLine) (ha:SE X a f) (hb:SR X b g) (hm:behindInMarks .In b=false):SE X (.Compare a [.In] [b] pos) (b2 f g inO):=zA7 (zLP (zPk hu) ha hb hm) λ_ _ _ h=>zLu h
theorem sb_in (hu:X.A.units+30<cLine) (ha:SE X a f) (hb:SR X b g) (hm:behindInMarks .In b=false):SB X (.Compare a [.In] [b] pos) (bB (b2 f g inO)):=
 zHU (zGK (zPk hu) ha hb hm) λσ H Q=>by
  rintro ⟨G,ρ,d,s,er,ef,k⟩
  obtain ⟨x,e1,e2⟩:=zUX.mp ef
  have e3:=zFj e2
  subst e3
  exact zLu ⟨G,ρ,_,s,er,e1,λv G' H' t r=>⟨d,yQ.mp r,k G' H' t⟩⟩
theorem zTL (hu:X.A.units+30<cLine) (ha:SE X a f) (hb:SR X b g) (hm:behindInMarks .NotIn b=false):SB X (.Compare a [.NotIn] [b] pos) (bB (b2 f g zQu)):=
 zHU (zGK (zQv hu) ha hb hm) λσ H Q=>by
  rintro ⟨G,ρ,d,s,er,ef,k⟩
  obtain ⟨x,e1,e2⟩:=zUX.mp ef
  have e3:=zFj e2
  subst e3
  exact zLu ⟨G,ρ,_,s,er,e1,λv G' H' t r=>⟨d,yQ.mp r,k G' H' t⟩⟩
noncomputable def ltO:D->D->Option D
 |.int i,.int j=>some (.bl (decide (i<j)))
 |.str i,.str j=>some (.bl (decide (i.cps.toList<j.cps.toList)))
 |_,_=>none
noncomputable def gtO:D->D->Option D
 |.int i,.int j=>some (.bl (decide (j<i)))
 |_,_=>none
theorem zPl:OpR X (compareOp .Lt) (rD X.K ltO):=by
 rintro pins s σ H x y v u Q I rx ry ⟨G,dx,dy,d,sm,r1,r2,e,k⟩
 cases dx with
 |int i=>cases dy with
  |int j=>cases e;rw [r1.int] at rx;rw [r2.int] at ry;obtain ⟨t,rfl⟩:=rx;obtain ⟨t',rfl⟩:=ry;exact lt_int (zBr I (k _ G H (zd.refl sm) (yQ.mpr rfl)) rfl)
  |_=>cases e
 |str i=>cases dy with
  |str j=>cases e;rw [r1.str] at rx;rw [r2.str] at ry;obtain ⟨t,rfl⟩:=rx;obtain ⟨t',rfl⟩:=ry;exact lt_str (zBr I (k _ G H (zd.refl sm) (yQ.mpr rfl)) rfl)
  |_=>cases e
 |_=>cases e
theorem zFm:OpR X (compareOp .Gt) (rD X.K gtO):=by
 rintro pins s σ H x y v u Q I rx ry ⟨G,dx,dy,d,sm,r1,r2,e,k⟩
 cases dx with
 |int i=>cases dy with
  |int j=>cases e;rw [r1.int] at rx;rw [r2.int] at ry;obtain ⟨t,rfl⟩:=rx;obtain ⟨t',rfl⟩:=ry;exact gt_int (zBr I (k _ G H (zd.refl sm) (yQ.mpr rfl)) rfl)
  |_=>cases e
 |_=>cases e
noncomputable def isO (x y:D):Option D:=match y with
 |.non=>some (.bl (match x with | .non=>true|_=>false))
 |.bl b=>some (.bl (match x with | .bl c=>c == b|_=>false))
 |_=>none
theorem zTM:OpR X (compareOp .Is) (rD X.K isO):=by
 rintro pins s σ H x y v u Q I rx ry ⟨G,dx,dy,d,sm,r1,r2,e,k⟩
 have fin:∀ {c c':Bool},d = .bl c->c=c'->EP X pins σ Q (.bool c') s:=λ{c c'} e1 e2=>by subst e2;subst e1;exact (zBr I (k _ G H (zd.refl sm) (yQ.mpr rfl)) rfl)
 cases dy with
 |non=>
  rw [r2.non] at ry;cases ry
  refine is_none_gen ?_
  cases dx with
  |non=>rw [r1.non] at rx;cases rx;cases e;exact fin rfl rfl
  |bl _=>rw [r1.bl] at rx;cases rx;cases e;exact fin rfl rfl
  |int _=>rw [r1.int] at rx;obtain ⟨t,rfl⟩:=rx;cases e;exact fin rfl rfl
  |str _=>rw [r1.str] at rx;obtain ⟨t,rfl⟩:=rx;cases e;exact fin rfl rfl
  |tup _=>obtain ⟨a,vs,rfl,_⟩:=r1.tup sm;cases rx;cases e;exact fin rfl rfl
  |lst _=>obtain ⟨a,vs,rfl,_⟩:=r1.list sm;cases rx;cases e;exact fin rfl rfl
 |bl b=>
  rw [r2.bl] at ry;cases ry
  cases dx with
  |non=>rw [r1.non] at rx;cases rx;cases e;exact zWT rfl (fin rfl rfl)
  |bl c=>rw [r1.bl] at rx;cases rx;cases e;exact zWT rfl (fin rfl (by cases b<;>cases c<;>rfl))
  |int _=>rw [r1.int] at rx;obtain ⟨t,rfl⟩:=rx;cases e;exact zWT rfl (fin rfl rfl)
  |str _=>rw [r1.str] at rx;obtain ⟨t,rfl⟩:=rx;cases e;exact zWT rfl (fin rfl rfl)
  |tup _=>obtain ⟨a,vs,rfl,_⟩:=r1.tup sm;cases rx;cases e;exact zWT rfl (fin rfl rfl)
  |lst _=>obtain ⟨a,vs,rfl,_⟩:=r1.list sm;cases rx;cases e;exact zWT rfl (fin rfl rfl)
 |_=>cases e
end
end RD
namespace RD
open PySem PySem.Spec PyProof.Rows L2 SeqAt
section
variable {X:Cx} {a b:Expr} {f g:ROd} {fl:ROl} {pos:Pos}
theorem zIc {n:Nat} (h:n<=1000000):n<=sizeLine:=zVF h (by decide)
noncomputable def zV:D->D->Option D
 |.int i,.int j=>some (.int (i+j))
 |.str i,.str j=>if i.length+j.length<=1000000 then some (.str (i++j)) else none
 |.tup xs,.tup ys=>if xs.length+ys.length<=1000000 then some (.tup (xs++ys)) else none
 |_,_=>none
noncomputable def zKY:D->D->Option D
 |.int i,.int j=>some (.int (i-j))
 |_,_=>none
noncomputable def zNf:D->D->Option D
 |.int i,.int j=>if (-(2 ^ 64)<i/\i<2 ^ 64)\/(-(2 ^ 64)<j/\j<2 ^ 64) then some (.int (i*j)) else none
 |_,_=>none
noncomputable def zGV:D->D->Option D
 |.int i,.int j=>if 0<j then some (.int (i%j)) else none
 |_,_=>none
noncomputable def zKZ:D->D->Option D
 |.int i,.int j=>if 0<j/\j<1073741824 then some (.int (i/j)) else none
 |_,_=>none
theorem zQw {prog:Program} {w:World} {A:Around} {E:VSt} {s:Shared} {t b:Addr} {ws:List Value} {Q:VSt} (ht:IsTup s.heap t ([]:List Value).toArray) (hb:IsTup s.heap b ws.toArray) (h1:Q (.ref b) s) :
  wpAny (model prog w) A (binaryOp .Add (.ref t) (.ref b)) Q E s:=by
 obtain ⟨⟨cls,dd,data,sl⟩,ho,hc,n,hd⟩:=id ht
 obtain ⟨⟨cls2,dd2,data2,sl2⟩,ho2,hc2,n2,hd2⟩:=id hb
 simp only at hc hd hc2 hd2
 subst hc hd hc2 hd2
 exact concat_meets ⟨_,ho,rfl⟩ ⟨_,ho2,rfl⟩ noFill_tuple_add seq_tuple_add zWg zWc (zWX _ _)
   (tuple_addW0 t b _ ws.toArray n n2 dd dd2 sl sl2 rfl) ⟨ho,ho2,h1⟩
theorem zU:OpR X (binaryOp .Add) (rD X.K zV):=by
 rintro pins s σ H x y v u Q I rx ry ⟨G,dx,dy,d,sm,r1,r2,e,k⟩
 cases dx with
 |int i=>cases dy with
  |int j=>cases e;rw [r1.int] at rx;rw [r2.int] at ry;obtain ⟨t,rfl⟩:=rx;obtain ⟨t',rfl⟩:=ry;exact add_int ⟨.int (i+j),H,I.tok _,⟨_,rfl⟩,k _ G H (zd.refl sm) (yC.mpr rfl)⟩
  |_=>cases e
 |str i=>cases dy with
  |str j=>
   simp only [zV] at e
   split at e
   ·rename_i hz
    cases e;rw [r1.str] at rx;rw [r2.str] at ry
    exact zKO pins s σ H _ _ v u Q I rx ry ⟨i,j,rfl,rfl,zIc hz,k _ G H (zd.refl sm) (zAR.mpr rfl)⟩
   ·cases e
  |_=>cases e
 |tup xs=>cases dy with
  |tup ys=>
   simp only [zV] at e
   split at e
   ·rename_i hz
    cases e
    obtain ⟨a1,vs1,rfl,q1,w1⟩:=r1.tup sm
    obtain ⟨a2,vs2,rfl,q2,w2⟩:=r2.tup sm
    have l1:=w1.length
    have l2:=w2.length
    cases vs1 with
    |nil=>
     cases rx;cases ry
     obtain ⟨its,vv,p1,_⟩:=I.tuple q1
     obtain ⟨its2,vv2,p2,_⟩:=I.tuple q2
     cases vv
     have hx:xs = []:=zWa.mp l1
     subst hx
     refine zQw p1 p2 ⟨.ref a2,H,I,rfl,k _ G H (zd.refl sm) ?_⟩
     simpa using r2.rep (λ_ z=>by cases z)
    |cons v1 vs1=>
     refine zQb pins s σ H _ _ v u Q I rx ry ⟨a1,a2,_,vs2,rfl,rfl,q1,q2,by simp,zIc (by omega),λz=>?_,λ_ p hp=>?_⟩
     ·subst z
      have hy:ys = []:=zWa.mp l2
      subst hy
      refine k _ G H (zd.refl sm) ?_
      simpa using r1.rep (λ_ z=>by cases z)
     ·exact k _ _ _ (zd.new sm hp) (zBM.mpr ⟨p,_,rfl,zM,Reps.mono (yj (sm.free hp)) _ _ (w1.append w2)⟩)
   ·cases e
  |_=>cases e
 |_=>cases e
theorem zAU:OpR X (binaryOp .Sub) (rD X.K zKY):=by
 rintro pins s σ H x y v u Q I rx ry ⟨G,dx,dy,d,sm,r1,r2,e,k⟩
 cases dx with
 |int i=>cases dy with
  |int j=>cases e;exact zSp pins s σ H x y v u Q I rx ry ⟨i,j,r1.int,r2.int,k _ G H (zd.refl sm) (yC.mpr rfl)⟩
  |_=>cases e
 |_=>cases e
theorem zCd:OpR X (binaryOp .Mult) (rD X.K zNf):=by
 rintro pins s σ H x y v u Q I rx ry ⟨G,dx,dy,d,sm,r1,r2,e,k⟩
 cases dx with
 |int i=>cases dy with
  |int j=>
   simp only [zNf] at e
   split at e
   ·rename_i hz;cases e;exact zSq pins s σ H x y v u Q I rx ry ⟨i,j,r1.int,r2.int,hz,k _ G H (zd.refl sm) (yC.mpr rfl)⟩
   ·cases e
  |_=>cases e
 |_=>cases e
theorem zAD:OpR X (binaryOp .Mod) (rD X.K zGV):=by
 rintro pins s σ H x y v u Q I rx ry ⟨G,dx,dy,d,sm,r1,r2,e,k⟩
 cases dx with
 |int i=>cases dy with
  |int j=>
   simp only [zGV] at e
   split at e
   ·rename_i hz;cases e;exact zSr pins s σ H x y v u Q I rx ry ⟨i,j,r1.int,r2.int,hz,k _ G H (zd.refl sm) (yC.mpr rfl)⟩
   ·cases e
  |_=>cases e
 |_=>cases e
theorem zN6:OpR X (binaryOp .FloorDiv) (rD X.K zKZ):=by
 rintro pins s σ H x y v u Q I rx ry ⟨G,dx,dy,d,sm,r1,r2,e,k⟩
 cases dx with
 |int i=>cases dy with
  |int j=>
   simp only [zKZ] at e
   split at e
   ·rename_i hz;cases e;exact zQO pins s σ H x y v u Q I rx ry ⟨i,j,r1.int,r2.int,hz,k _ G H (zd.refl sm) (yC.mpr rfl)⟩
   ·cases e
  |_=>cases e
 |_=>cases e
noncomputable def zPm:D->Option D
 |.int i=>some (.int (-i))
 |_=>none
theorem zHZ (ha:SR X a f):SE X (.UnaryOp .USub a pos) (b1 f zPm):=zA7 (pe_un (r:=λx H Q=>∃ i,x = .int i/\Q (.int (-i)) H) zSs ha) λσ H Q=>by
 rintro ⟨G,ρ,d,s,er,ef,k⟩
 obtain ⟨d1,e1,ef⟩:=zUX.mp ef
 cases d1 with
 |int i=>cases ef;exact ⟨G,ρ,_,s,er,e1,λv1 G1 H1 t1 r1=>⟨i,r1.int,k _ G1 H1 t1 (yC.mpr rfl)⟩⟩
 |_=>cases ef
noncomputable def zo (x y:D):Option (List D):=match x,y with
 |.lst xs,.lst ys=>if xs.length+ys.length<=1000000 then some (xs++ys) else none
 |_,_=>none
noncomputable def b2F (f g:ROd) (op:D->D->Option (List D)):ROl:=λρ=>(f ρ).bind λx=>(g ρ).bind λy=>op x y
noncomputable def rF (K:Fg) (op:D->D->Option (List D)):R2:=λx y H Q=>∃ G dx dy xs,zi G H/\zCC K G H dx x/\zCC K G H dy y/\op dx dy=some xs/\∀ a vs G' H',zd G H G' H'->H a=none->G' a=none->H' a=some (.lst vs)->Reps K G' xs vs->Q (.ref a) H'
theorem zTN {K:Fg} {op:D->D->Option (List D)} {σ:L2.St} {H:Hp} {Q:VK} (h:tF K (b2F f g op) σ H Q):tOp (rF K op) (tR K f) (tR K g) σ H Q:=by
 obtain ⟨G,ρ,d,s,er,ef,k⟩:=h
 obtain ⟨x,e1,ef⟩:=zUX.mp ef
 obtain ⟨y,e2,ef⟩:=zUX.mp ef
 refine ⟨G,ρ,x,s,er,e1,λv1 G1 H1 t1 r1=>⟨G1,ρ,y,t1.s,er.step t1,e2,λv2 G2 H2 t2 r2=>?_⟩⟩
 exact ⟨G2,x,y,d,t2.s,r1.step t2,r2,ef,λa vs G' H' t h1 h2 h3 r=>k a vs G' H' ((t1.trans t2).trans t) ((t1.trans t2).h.free h1) h2 h3 r⟩
theorem zQx:OpR X (binaryOp .Add) (rF X.K zo):=by
 rintro pins s σ H x y v u Q I rx ry ⟨G,dx,dy,d,sm,r1,r2,e,k⟩
 cases dx with
 |lst xs=>cases dy with
  |lst ys=>
   simp only [zo] at e
   split at e
   ·rename_i hz
    cases e
    obtain ⟨a1,vs1,rfl,q1,w1⟩:=r1.list sm
    obtain ⟨a2,vs2,rfl,q2,w2⟩:=r2.list sm
    have l1:=w1.length
    have l2:=w2.length
    cases rx;cases ry
    obtain ⟨its,vv,⟨o1,n1,p1,c1,d1,e1⟩,_⟩:=I.list q1
    obtain ⟨its2,vv2,⟨o2,n2,p2,c2,d2,e2⟩,_⟩:=I.list q2
    have l3:=vv.length
    have l4:=vv2.length
    obtain ⟨cls,dd,data,sl⟩:=o1
    obtain ⟨cls2,dd2,data2,sl2⟩:=o2
    simp only at c1 d1 e1 c2 d2 e2
    subst c1 d1 e1 c2 d2 e2
    refine concat_meets ⟨_,p1,rfl⟩ ⟨_,p2,rfl⟩ noFill_list_add seq_list_add PySem.F.slot_list_add PySem.F.entry_list_add (PySem.F.args_list_add_2 _ _)
     (list_addW a1 a2 its.toArray its2.toArray n1 n2 none none sl sl2 (by rw [zUh,zUh];exact zIc (by omega))) ⟨p1,p2,?_⟩
    have ea:its.toArray++its2.toArray=(its++its2).toArray:=by simp
    rw [ea]
    refine ⟨.ref _,_,I.lnew (t':=s.toks) (vv.append vv2) (by rw [zUr];exact zIc (by omega)),rfl,?_⟩
    exact k _ (vs1++vs2) G _ (zd.newH sm I.fresh) I.fresh (sm.free I.fresh) zM (w1.append w2)
   ·cases e
  |_=>cases e
 |_=>cases e
theorem zHa (ha:SR X a f) (hb:SR X b g):SF X (.BinOp a .Add b pos) (b2F f g zo):=zA7 (zSo zQx ha hb) λ_ _ _ h=>zTN h
noncomputable def ixO:D->D->Option D
 |.lst xs,.int i=>atI xs i
 |.tup xs,.int i=>atI xs i
 |.str z,.int i=>if z.length<=1000000 then (atI z.cps.toList i).map λc=>.str ⟨#[c]⟩ else none
 |_,_=>none
theorem zLv {K:Fg} {G:Hp} {xs:List D} {vs:List V} {i:Int} {d:D} (r:Reps K G xs vs) (h:atI xs i=some d):∃ v,atI vs i=some v/\Rep K G d v:=by
 unfold atI at h ⊢
 rw [<- r.length]
 obtain ⟨j,e1,e2⟩:=zUX.mp h
 rw [e1]
 exact r.get e2
theorem ix_D:IxR X (rD X.K ixO):=by
 rintro value slice pins s σ H x y v u Q I rx ry ⟨G,dx,dy,d,sm,r1,r2,e,k⟩ hs
 cases dy with
 |int i=>
  have hy:=r2.int
  subst hy
  cases dx with
  |lst xs=>
   obtain ⟨a1,vs1,rfl,q1,w1⟩:=r1.list sm
   obtain ⟨v',e1,e2⟩:=zLv w1 e
   exact zLZ value slice pins s σ H _ _ v u Q I rx ry (.inl ⟨a1,vs1,i,v',rfl,rfl,q1,e1,k _ G H (zd.refl sm) e2⟩) hs
  |tup xs=>
   obtain ⟨a1,vs1,rfl,q1,w1⟩:=r1.tup sm
   obtain ⟨v',e1,e2⟩:=zLv w1 e
   exact zLZ value slice pins s σ H _ _ v u Q I rx ry (.inr (.inl ⟨a1,vs1,i,v',rfl,rfl,q1,e1,k _ G H (zd.refl sm) e2⟩)) hs
  |str z=>
   have hx:=r1.str
   subst hx
   simp only [ixO] at e
   split at e
   ·rename_i hz
    obtain ⟨c,e1,rfl⟩:=zUZ.mp e
    exact zLZ value slice pins s σ H _ _ v u Q I rx ry (.inr (.inr ⟨z,i,c,rfl,rfl,zIc hz,e1,k _ G H (zd.refl sm) (zAR.mpr rfl)⟩)) hs
   ·cases e
  |_=>cases e
 |_=>cases dx<;>cases e
theorem zX (ha:SR X a f) (hb:SR X b g) (hs:zLY b:=by intro _ _;rfl):SE X (.Subscript a b pos) (b2 f g ixO):=zA7 (pe_ix ix_D ha hb hs) λ_ _ _ h=>zN0 h
abbrev zj (xs:List D) (lo hi:Option Int):List D:=(xs.drop (HT.sIx xs.length 0 lo)).take (HT.sIx xs.length xs.length hi-HT.sIx xs.length 0 lo)
theorem zLw {K:Fg} {G:Hp} {xs:List D} {vs:List V} (lo hi:Option Int) (r:Reps K G xs vs):Reps K G (zj xs lo hi) (zPa vs lo hi):=by
 unfold zj zPa
 rw [r.length]
 exact (r.drop _).take _
noncomputable def tOs (K:Fg) (f:Rho->Option (Option Int)):TO:=λσ H Q=>∃ G ρ d,zi G H/\Er K G H ρ σ/\f ρ=some d/\∀ G' H',zd G H G' H'->Q d H'
abbrev SO (X:Cx) (e:Option Expr) (f:Rho->Option (Option Int)):Prop:=PO X e (tOs X.K f)
theorem zTO {X:Cx} {e:Option Expr} {t t':TO} (h:PO X e t) (w:∀ σ H Q,t' σ H Q->t σ H Q):PO X e t':=λpins s σ H Q I q=>h pins s σ H Q I (w σ H Q q)
noncomputable def asI:D->Option Int
 |.int i=>some i
 |_=>none
noncomputable def oI (f:ROd):Rho->Option (Option Int):=λρ=>(f ρ).bind λd=>(asI d).map some
theorem qd:SO X none (λ_=>some none):=zTO zQZ λσ H Q=>by rintro ⟨G,ρ,d,s,er,ef,k⟩;cases ef;exact k G H (zd.refl s)
theorem qK (h:SE X a f):SO X (some a) (oI f):=zTO (zQa h) λσ H Q=>by
 rintro ⟨G,ρ,d,s,er,ef,k⟩
 obtain ⟨x,e1,ef⟩:=zUX.mp ef
 obtain ⟨i,e2,rfl⟩:=zUZ.mp ef
 cases x with
 |int j=>cases e2;exact ⟨G,ρ,_,s,er,e1,λv1 G1 H1 t1 r1=>⟨i,yC.mp r1,k G1 H1 t1⟩⟩
 |_=>cases e2
variable {lo hi:Option Expr} {ol oh:Rho->Option (Option Int)} {p2:Pos}
noncomputable def slD (x:D) (lo hi:Option Int):Option D:=match x with
 |.tup xs=>some (.tup (zj xs lo hi))
 |.str z=>if z.length<=1000000 then some (.str (Txt.slice z lo hi)) else none
 |_=>none
noncomputable def slF (x:D) (lo hi:Option Int):Option (List D):=match x with
 |.lst xs=>some (zj xs lo hi)
 |_=>none
noncomputable def b3S {α:Type} (f:ROd) (ol oh:Rho->Option (Option Int)) (op:D->Option Int->Option Int->Option α):Rho->Option α:=λρ=>(f ρ).bind λx=>(ol ρ).bind λl=>(oh ρ).bind λh=>op x l h
theorem zCe {prog:Program} {w:World} {A:Around} {E:VSt} {s:Shared} {t sl:Addr} {items:Array Value} {vl vu:Value} {lo hi:Option Int} {Q:VSt} (ht:IsTup s.heap t items) (hs:s.heap.IsSliceOf sl vl vu .none) (pl:IsPart vl lo) (pu:IsPart vu hi)
  (hw:HT.sIx items.size 0 lo=0/\HT.sIx items.size items.size hi=items.size) (h:Q (.ref t) s):wpAny (model prog w) A (getItem (.ref t) (.ref sl)) Q E s:=by
 obtain ⟨os,hos,hcs,hds⟩:=id hs
 have hTs:s.TypeIs (.ref sl) "slice":=⟨os,hos,hcs⟩
 unfold getItem
 try with_reducible refine zV5 ?_
 first|refine zUe (zUl ?_)|skip
 refine zUe (wpAny_sequenceKey ht.typeIs (by decide) ?_)
 refine zUe (wpAny_callSpecial?_slot (name:=Str.ofString "__getitem__") ht.typeIs zVo
  (wpAny_call_entry zVo ht.typeIs entry_tuple_getitem ?_ (args_tuple_getitem _ _)))
 show wpAny _ _ (Builtin.Tuple.tupleItemsOf (.ref t) >>= _) _ _ s
 refine zUe (tupleItemsOf_ ht ?_)
 refine zUe (zWZ hTs ?_)
 rw [zUp (by decide)]
 refine zUe (HT.zBc hs pl pu ?_)
 have hyes:(((HT.sIx items.size 0 lo:Nat):Int) == 0 && (1:Int) == 1 && (HT.sIx items.size items.size hi-HT.sIx items.size 0 lo) == items.size)=true:=by
  rw [hw.1,hw.2];simp
 show wpAny _ _ (if (((HT.sIx items.size 0 lo:Nat):Int) == 0 && (1:Int) == 1 && (HT.sIx items.size items.size hi-HT.sIx items.size 0 lo) == items.size)=true then _ else _) _ _ s
 rw [zUp hyes]
 unfold Builtin.Tuple.tupleIsExact
 first
  |exact zUe (zUe (zWZ ht.typeIs (zUl (by rw [zUp (by decide)];exact zUe (wpAny_rule (zUl ⟨_,rfl,zUl h⟩))))))
  |exact zUe (zUe (zWZ ht.typeIs (zUl (by rw [zUp (by decide)];exact zUe (wpAny_rule (zUe (zUl (zUl ⟨_,rfl,zUl h⟩))))))))
  |exact zUe (zUe (zUe (zWZ ht.typeIs (zUl (by rw [zUp (by decide)];exact zUe (wpAny_rule (zUl (zUl ⟨_,rfl,zUl h⟩))))))))
noncomputable def rSD (K:Fg):V->Option Int->Option Int->Hp->VK->Prop:=λx lo hi H Q=>∃ G dx d,zi G H/\zCC K G H dx x/\slD dx lo hi=some d/\∀ v G' H',zd G H G' H'->Rep K G' d v->Q v H'
theorem part_of {v:Value} {o:Option Int} (p:IsPart v o):∃ l:Option (Int×Tok),v=partValue l/\l.map (·.1)=o:=by
 cases p with
 |none=>exact ⟨none,rfl,rfl⟩
 |int i t=>exact ⟨some (i,t),rfl,rfl⟩
theorem sl_D:SlR X (rSD X.K):=by
 rintro pins s σ H x v vl vu lo hi sl Q I rx hs pl pu ⟨G,dx,d,sm,r1,e,k⟩
 cases dx with
 |tup xs=>
  cases e
  obtain ⟨a1,vs1,rfl,q1,w1⟩:=r1.tup sm
  by_cases hw:HT.sIx vs1.length 0 lo=0/\HT.sIx vs1.length vs1.length hi=vs1.length
  ·cases rx
   obtain ⟨its,vv,ht,hz⟩:=I.tuple q1
   have hlen:its.toArray.size=vs1.length:=by rw [zUh];exact vv.length.symm
   refine ⟨"tuple",_,PyProof.Rows.slot_tuple_getitem.lookup,ht.typeIs,zCe ht hs pl pu (by rw [hlen];exact hw) ⟨.ref a1,H,I,rfl,k _ G H (zd.refl sm) ?_⟩⟩
   have e1:zj xs lo hi=xs:=by
    unfold zj
    rw [w1.length,hw.1,hw.2,List.drop_zero,Nat.sub_zero,<- w1.length,zWz]
   rw [e1]
   exact r1.rep λ_ z=>by cases z
  ·exact zSz pins s σ H _ v vl vu lo hi sl Q I rx hs pl pu ⟨a1,vs1,rfl,q1,hw,λp hp=>k _ _ _ (zd.new sm hp) (zBM.mpr ⟨p,_,rfl,zM,Reps.mono (yj (sm.free hp)) _ _ (zLw lo hi w1)⟩)⟩
 |str z=>
  simp only [slD] at e
  split at e
  ·rename_i hz
   cases e
   rw [r1.str] at rx
   obtain ⟨t,rfl⟩:=rx
   obtain ⟨l,rfl,el⟩:=part_of pl
   obtain ⟨u,rfl,eu⟩:=part_of pu
   refine ⟨"str",_,F.slot_str_getitem.lookup,typeIs_str _ _ _,wpAny_getItem_str_slice (l:=l) (u:=u) (st:=none) hs rfl ?_⟩
   subst el eu
   refine post_val_or_str ⟨zVF (Txt.slice_le z _ _) (zIc hz),λt' k'=>⟨.str _,H,I.tok _,⟨_,rfl⟩,k _ G H (zd.refl sm) (zAR.mpr rfl)⟩⟩
  ·cases e
 |_=>cases e
theorem qH (ha:SR X a f) (hl:SO X lo ol) (hh:SO X hi oh):SE X (.Subscript a (.Slice lo hi none p2) pos) (b3S f ol oh slD):=zA7 (zJS sl_D ha hl hh) λσ H Q=>by
 rintro ⟨G,ρ,d,s,er,ef,k⟩
 obtain ⟨x,e1,ef⟩:=zUX.mp ef
 obtain ⟨l,e2,ef⟩:=zUX.mp ef
 obtain ⟨h,e3,ef⟩:=zUX.mp ef
 exact ⟨G,ρ,x,s,er,e1,λv1 G1 H1 t1 r1=>⟨G1,ρ,l,t1.s,er.step t1,e2,λG2 H2 t2=>⟨G2,ρ,h,t2.s,er.step (t1.trans t2),e3,λG3 H3 t3=>⟨G3,x,d,t3.s,r1.step (t2.trans t3),ef,λv G' H' t r=>k v G' H' (((t1.trans t2).trans t3).trans t) r⟩⟩⟩⟩
theorem zJb (ha:SR X a f) (hl:SO X lo ol) (hh:SO X hi oh):SF X (.Subscript a (.Slice lo hi none p2) pos) (b3S f ol oh slF):=zA7 (zJS zQd ha hl hh) λσ H Q=>by
 rintro ⟨G,ρ,d,s,er,ef,k⟩
 obtain ⟨x,e1,ef⟩:=zUX.mp ef
 obtain ⟨l,e2,ef⟩:=zUX.mp ef
 obtain ⟨h,e3,ef⟩:=zUX.mp ef
 cases x with
 |lst xs=>
  cases ef
  refine ⟨G,ρ,_,s,er,e1,λv1 G1 H1 t1 r1=>⟨G1,ρ,l,t1.s,er.step t1,e2,λG2 H2 t2=>⟨G2,ρ,h,t2.s,er.step (t1.trans t2),e3,λG3 H3 t3=>?_⟩⟩⟩
  have tt:=(t1.trans t2).trans t3
  obtain ⟨a1,vs1,rfl,q1,w1⟩:=(r1.step (t2.trans t3)).list t3.s
  exact ⟨a1,vs1,rfl,q1,λp hp=>k p _ G3 _ (tt.trans (zd.newH t3.s hp)) (tt.h.free hp) (t3.s.free hp) zM (zLw l h w1)⟩
 |_=>cases ef
noncomputable def zEF:D->Option D
 |.tup xs=>some (.int xs.length)
 |.lst xs=>some (.int xs.length)
 |.str z=>if z.length<=1000000 then some (.int z.length) else none
 |_=>none
theorem zx:zAt X (.builtin "len") (cR X.K zEF):=by
 intro pins s σ H xs us Q I r h
 obtain ⟨G,d1,d,x,rfl,sm,r1,e,k⟩:=h
 cases d1 with
 |tup ys=>
  cases e
  obtain ⟨a,vs,rfl,q,w⟩:=r1.tup sm
  refine zDx pins s σ H _ us Q I r ⟨a,vs,rfl,.inr q,?_⟩
  rw [<- w.length]
  exact k _ G H (zd.refl sm) (yC.mpr rfl)
 |lst ys=>
  cases e
  obtain ⟨a,vs,rfl,q,w⟩:=r1.list sm
  refine zDx pins s σ H _ us Q I r ⟨a,vs,rfl,.inl q,?_⟩
  rw [<- w.length]
  exact k _ G H (zd.refl sm) (yC.mpr rfl)
 |str z=>
  simp only [zEF] at e
  split at e
  ·rename_i hz
   cases e
   have hx:=r1.str
   subst hx
   exact zHM pins s σ H _ us Q I r ⟨z,rfl,zIc hz,k _ G H (zd.refl sm) (yC.mpr rfl)⟩
  ·cases e
 |_=>cases e
noncomputable def zHb:D->Option D
 |.tup xs=>some (.tup xs)
 |.lst xs=>some (.tup xs)
 |_=>none
theorem yo:zAt X (.type "tuple") (cR X.K zHb):=by
 intro pins s σ H xs us Q I r h
 obtain ⟨G,d1,d,x,rfl,sm,r1,e,k⟩:=h
 cases d1 with
 |tup ys=>
  cases e
  obtain ⟨a,vs,rfl,q,w⟩:=r1.tup sm
  exact zCm pins s σ H _ us Q I r ⟨a,vs,rfl,.inr ⟨q,k _ G H (zd.refl sm) (r1.rep λ_ z=>by cases z)⟩⟩
 |lst ys=>
  cases e
  obtain ⟨a,vs,rfl,q,w⟩:=r1.list sm
  exact zCm pins s σ H _ us Q I r ⟨a,vs,rfl,.inl ⟨q,λp hp=>k _ _ _ (zd.new sm hp) (zBM.mpr ⟨p,_,rfl,zM,Reps.mono (yj (sm.free hp)) _ _ w⟩)⟩⟩
 |_=>cases e
noncomputable def zPn:D->Option (List D)
 |.tup xs=>some xs
 |.lst xs=>some xs
 |_=>none
theorem zLx:zAt X (.type "list") (cF X.K zPn):=by
 intro pins s σ H xs us Q I r h
 obtain ⟨G,d1,ys,x,rfl,sm,r1,e,k⟩:=h
 cases d1 with
 |tup zs=>
  cases e
  obtain ⟨a,vs,rfl,q,w⟩:=r1.tup sm
  exact zDy pins s σ H _ us Q I r ⟨a,vs,rfl,.inr q,λp hp=>k p vs G _ (zd.newH sm hp) hp (sm.free hp) zM w⟩
 |lst zs=>
  cases e
  obtain ⟨a,vs,rfl,q,w⟩:=r1.list sm
  exact zDy pins s σ H _ us Q I r ⟨a,vs,rfl,.inl q,λp hp=>k p vs G _ (zd.newH sm hp) hp (sm.free hp) zM w⟩
 |_=>cases e
noncomputable def zTP:D->Option D
 |.int i=>some (.int i)
 |.bl b=>some (.int (if b then 1 else 0))
 |_=>none
theorem zEb:zAt X (.type "int") (cR X.K zTP):=by
 intro pins s σ H xs us Q I r h
 obtain ⟨G,d1,d,x,rfl,sm,r1,e,k⟩:=h
 cases d1 with
 |int i=>cases e;have hx:=r1.int;subst hx;exact zHG pins s σ H _ us Q I r (.inl ⟨i,rfl,k _ G H (zd.refl sm) (yC.mpr rfl)⟩)
 |bl b=>cases e;have hx:=r1.bl;subst hx;exact zHG pins s σ H _ us Q I r (.inr ⟨b,rfl,k _ G H (zd.refl sm) (yC.mpr rfl)⟩)
 |_=>cases e
noncomputable def zId (x:Int):List Int->List Int
 | []=>[x]
 |y::ys=>if x<=y then x::y::ys else y::zId x ys
noncomputable def zCL:List Int->List Int
 | []=>[]
 |x::xs=>zId x (zCL xs)
noncomputable def ltS (a b:Str):Bool:=decide (a.cps.toList<b.cps.toList)
noncomputable def zIe (x:Str):List Str->List Str
 | []=>[x]
 |y::ys=>if ltS y x then y::zIe x ys else x::y::ys
noncomputable def zAw:List Str->List Str
 | []=>[]
 |x::xs=>zIe x (zAw xs)
noncomputable def zKa:List D->Option (List Int)
 | []=>some []
 |.int i::r=>(zKa r).map (i :: ·)
 |_=>none
noncomputable def zGW:List D->Option (List Str)
 | []=>some []
 |.str i::r=>(zGW r).map (i :: ·)
 |_=>none
noncomputable def zFV:D->Option (List D):=λd=>(zPn d).bind λxs=>if xs.length<64 then match zKa xs with
  |some is=>some ((zCL is).map .int)
  |none=>(zGW xs).map λss=>(zAw ss).map .str
 else none
end
noncomputable def zEc (names:List (Str×NameKind)) (cells:List (Str×Addr)):List (Str×Addr):=((names.filter λy=>y.2 == .free).reverse).map λy=>(y.1,(cells.lookup y.1).getD 0)
theorem zD0 {env:Env}:∀ (names:List (Str×NameKind)) (acc:List (Str×Addr)),(∀ y∈names,y.2 = .free->∃ c,env.cells.lookup y.1=some c) ->
  (forIn names acc (λ(x:Str×NameKind) (cs:List (Str×Addr))=>(if x.2 == .free then (do let c <- cellOf env x.1;pure (ForInStep.yield ((x.1,c)::cs))) else pure (ForInStep.yield cs):Sem (ForInStep (List (Str×Addr))))))=pure (zEc names env.cells++acc)
 | [],acc,_=>by simp [zEc]
 |(n,k)::r,acc,h=>by
  have ih:=λacc=>zD0 r acc λy hy=>h y (zUY _ hy)
  rw [List.forIn_cons]
  by_cases hk:(k == NameKind.free)=true
  ·obtain ⟨c,hc⟩:=h (n,k) zUd (by simpa using hk)
   simp only [hk,zVU]
   have e1:cellOf env n=pure c:=by unfold cellOf;rw [hc]
   rw [e1]
   show (forIn r ((n,c)::acc) _:Sem (List (Str×Addr)))=_
   rw [ih]
   congr 1
   simp [zEc,hk,hc]
  ·simp only [hk,zVg]
   show (forIn r acc _:Sem (List (Str×Addr)))=_
   rw [ih]
   congr 1
   simp [zEc,hk]
theorem zBP {scope:Scope} {env:Env} (h:∀ y∈scope.names,y.2 = .free->∃ c,env.cells.lookup y.1=some c):closureFor scope env=pure (zEc scope.names env.cells):=by
 have:=zD0 scope.names [] h
 rw [zVP] at this
 unfold closureFor
 show (forIn scope.names [] _ >>= λcs=>pure cs)=_
 have e2:(forIn scope.names ([]:List (Str×Addr)) (λ(x:Str×NameKind) (cs:List (Str×Addr))=>(match x with|(name,kind)=>if kind == .free then (do let c <- cellOf env name;pure (ForInStep.yield ((name,c)::cs))) else pure (ForInStep.yield cs):Sem (ForInStep (List (Str×Addr))))))=pure (zEc scope.names env.cells):=this
 first
  |exact (zVX (λt=>t >>= λcs=>pure cs) e2).trans rfl
  |(erw [e2];rfl)
theorem zEd {names:List (Str×NameKind)} {cells:List (Str×Addr)} {x:Str} {c:Addr} (h:(zEc names cells).lookup x=some c):(x,NameKind.free)∈names/\c=(cells.lookup x).getD 0:=by
 have hm:=zVj h
 obtain ⟨y,hy,e⟩:=zVA.mp hm
 obtain ⟨h1,h2⟩:=zVr.mp (List.mem_reverse.mp hy)
 cases e
 obtain ⟨n,k⟩:=y
 have:k = .free:=by simpa using h2
 subst this
 exact ⟨h1,rfl⟩
theorem zCr {F:Str->Addr}:∀ (l:List (Str×NameKind)) {x:Str},(∃ k,(x,k)∈l)->(l.map λy=>(y.1,F y.1)).lookup x=some (F x)
 | [],_,h=>by obtain ⟨_,h⟩:=h;cases h
 |(n,k)::r,x,h=>by
  rw [zUc,zUy]
  by_cases e:x=n
  ·subst e;simp
  ·have:(x == n)=false:=by simpa using e
   rw [this]
   refine zCr r ?_
   obtain ⟨k',h⟩:=h
   rcases zUg.mp h with q|q
   ·cases q;exact absurd rfl e
   ·exact ⟨k',q⟩
theorem zJc {names:List (Str×NameKind)} {cells:List (Str×Addr)} {x:Str} (h:(x,NameKind.free)∈names):(zEc names cells).lookup x=some ((cells.lookup x).getD 0):=by
 unfold zEc
 exact zCr (F:=λx=>(cells.lookup x).getD 0) _ ⟨.free,List.mem_reverse.mpr (zVr.mpr ⟨h,by simp⟩)⟩
noncomputable def zAV (N nm:List Str) (inner outer:List (Str×NameKind)):Bool:=
 inner.all (λy=>y.2 != .cell && y.1 != "" && (y.2 != .local || inner.lookup y.1 == some .local) && (y.2 != .free || outer.lookup y.1 == some .cell || outer.lookup y.1 == some .free)) &&
 N.all (λx=>nm.contains x || match inner.lookup x with|none=>true|some .free=>true|some .globalImplicit=>true|some .globalExplicit=>true|_=>false)
noncomputable def zHc (N nm:List Str):List Str:=N.map (λy=>if nm.contains y then ("" : Str) else y)++nm
noncomputable def zk (X:Cx) (nm:List Str) (scope:Scope) (C:Addr) (s₃:Shared) (H₃:Hp) (ex:List Addr):Cx:=
 { X with N:=zHc X.N nm,s₀:=s₃,H₀:=H₃,env:=compEnvC scope (zEc scope.names X.env.cells) C X.env,outer:=X.stack,ex:=ex,fn:=λ_=>false,pn:=[],xe:=λ_ _=>False }
theorem zAx {env:Env} {x:Str} {k:NameKind}:∀ {names:List (Str×NameKind)},(names.map λ(n,k)=>if (k == NameKind.free && env.scope.kind == .function && env.kindOf n == some .cell) then (n,NameKind.cell) else (n,k)).lookup x=some k ->
  ∃ k',names.lookup x=some k'/\(k=k'\/(k = .cell/\k' = .free))
 | [],h=>by simp at h
 |(n,k0)::r,h=>by
  have ih:=@zAx env x k r
  rw [zUc] at h
  dsimp only at h
  rw [zUy]
  by_cases e:x=n
  ·subst e
   simp only [BEq.rfl]
   refine ⟨k0,rfl,?_⟩
   by_cases hc:(k0 == NameKind.free && env.scope.kind == .function && env.kindOf x == some .cell)=true
   ·rw [zUp hc,zUy] at h
    simp only [BEq.rfl] at h
    cases h
    simp only [zVR,zWP] at hc
    exact .inr ⟨rfl,hc.1.1⟩
   ·rw [zVD hc,zUy] at h
    simp only [BEq.rfl] at h
    cases h
    exact .inl rfl
  ·have e':(x == n)=false:=by simpa using e
   rw [e']
   refine ih ?_
   by_cases hc:(k0 == NameKind.free && env.scope.kind == .function && env.kindOf n == some .cell)=true
   ·rw [zUp hc,zUy,e'] at h;exact h
   ·rw [zVD hc,zUy,e'] at h;exact h
noncomputable def zP (g:D->Rho->Option Rho) (p:ROb) (f:ROd):List D->Rho->Option (List D)
 | [],_=>some []
 |d::ds,ρ=>(g d ρ).bind λρ1=>(p ρ1).bind λb=>if b=true then (f ρ1).bind λx=>(zP g p f ds ρ).map (x :: ·) else zP g p f ds ρ
noncomputable def zJ (m:Nat) (fl:ROl) (g:D->Rho->Option Rho) (p:ROb) (f:ROd):ROl:=λρ=>(fl ρ).bind λds=>if ds.length<=1000000 then zP g p f ds (ρ++List.replicate m .un) else none
def STs (X:Cx) (ifs:List Expr) (p:ROb):Prop:=(ifs = []/\p=λ_=>some true)\/∃ c,ifs = [c]/\SB X c p
def zEe (H:Hp) (ρ:Rho) (σ:L2.St) (a:Addr):Prop:=∀ (j:Nat) (u:Sl) (b:Addr),ρ[j]?=some u->u.isObj=true->σ[j]?=some (some (.ref b))->a∉fpS H u b
theorem Er.app {K:Fg} {G H:Hp} {ρ:Rho} {σ:L2.St} (e:Er K G H ρ σ) (m:Nat) (τ:L2.St) (hτ:τ.length=m):Er K G H (ρ++List.replicate m .un) (σ++τ):=by
 have low:∀ {i:Nat} {s:Sl},(ρ++List.replicate m .un)[i]?=some s->s = .un\/(i<ρ.length/\ρ[i]?=some s):=λ{i s} h=>by
  by_cases hi:i<ρ.length
  ·rw [zU5 hi] at h;exact .inr ⟨hi,h⟩
  ·rw [zU8 (by omega),zVT] at h
   split at h<;>cases h
   exact .inl rfl
 have up:∀ {i:Nat},i<ρ.length->(σ++τ)[i]?=σ[i]?:=λ{i} hi=>zU5 (by rw [<- e.len];exact hi)
 refine ⟨by simp [e.len,hτ],λi d h=>?_,λi u h o=>?_,λi j s t a b ne h1 o1 h2 o2 q1 q2=>?_⟩
 ·rcases low h with z|⟨hi,q⟩
  ·cases z
  ·rw [up hi];exact e.val i d q
 ·rcases low h with z|⟨hi,q⟩
  ·subst z;cases o
  ·rw [up hi];exact e.slot i u q o
 ·rcases low h1 with z|⟨hi,q⟩
  ·subst z;cases o1
  rcases low h2 with z|⟨hj,q'⟩
  ·subst z;cases o2
  rw [up hi] at q1
  rw [up hj] at q2
  exact e.sep i j s t a b ne q o1 q' o2 q1 q2
section
variable {X:Cx} {tg iter elt:Expr} {ifs:List Expr} {scope:Scope} {pos:Pos} {nm:List Str} {fl:ROl} {gd:D->Rho->Option Rho} {p:ROb} {f:ROd}
theorem yp {N nm:List Str} {inner outer:List (Str×NameKind)} (h:zAV N nm inner outer=true) {y:Str×NameKind} (hy:y∈inner) :
  y.2≠.cell/\y.1 ≠ ""/\(y.2 = .local->inner.lookup y.1=some .local)/\(y.2 = .free->outer.lookup y.1=some .cell\/outer.lookup y.1=some .free):=by
 unfold zAV at h
 rw [zVR,zWU] at h
 have:=h.1 y hy
 simp only [zVR,zW4,bne_iff_ne,ne_eq,zWP] at this
 obtain ⟨⟨⟨h1,h2⟩,h3⟩,h4⟩:=this
 refine ⟨h1,h2,λe=>?_,λe=>?_⟩
 ·rcases h3 with z|z
  ·exact absurd e z
  ·exact z
 ·rcases h4 with (z|z)|z
  ·exact absurd e z
  ·exact .inl z
  ·exact .inr z
theorem zN7 {N nm:List Str} {inner outer:List (Str×NameKind)} (h:zAV N nm inner outer=true) {x:Str} (hx:x∈N) (hn:¬ nm.contains x=true) {k:NameKind} (hk:inner.lookup x=some k):k≠.local/\k≠.cell:=by
 unfold zAV at h
 rw [zVR,zWU,zWU] at h
 have:=h.2 x hx
 rw [zW4] at this
 rcases this with z|z
 ·exact absurd z hn
 ·rw [hk] at z
  cases k<;>first|exact ⟨by decide,by decide⟩|exact absurd z (by decide)
theorem zLy {pins:PNt} {σ:L2.St} {H:Hp} {s:Shared} (I:Inv X pins σ H s) (hk:scope.kind = .function) (hok:zAV X.N nm scope.names X.env.scope.names=true) {ex:List Addr} (hex:∀ b∈ex,FpOk X pins H b) (hlt:∀ b∈ex,b<s.heap.objs.size) :
  (zk X nm scope s.heap.objs.size s H ex).Ok:=by
 have cellsOk:∀ x c,(zEc scope.names X.env.cells).lookup x=some c->X.env.cells.lookup x=some c:=λx c e=>by
  obtain ⟨h1,h2⟩:=zEd e
  have h3:=(yp hok h1).2.2.2 rfl
  obtain ⟨c',h4⟩:=I.ok.has x h3
  rw [h4] at h2
  rw [h4,h2];rfl
 refine ⟨I.ok.mod,?_,I.ok.glob,I.ok.blt,zUn _,λx y c h1 h2=>I.ok.inj x y c (cellsOk x c h1) (cellsOk y c h2),λx hx=>?_,λx c z=>(by cases z),I.ok.hd,I.ok.frames,.inl rfl,λb hb=>⟨?_,λx c e=>?_⟩,I.bs,zVF I.ok.bsz I.sz,λb o e hb=>?_,λb hb hf=>?_,I.stack,I.stkFree⟩
 ·show (relabel scope X.env).kind = .function
  exact hk
 ·have:∃ k,(relabel scope X.env).names.lookup x=some k/\(k = .cell\/k = .free):=by
   rcases hx with z|z
   ·exact ⟨_,z,.inl rfl⟩
   ·exact ⟨_,z,.inr rfl⟩
  obtain ⟨k,e,hk'⟩:=this
  obtain ⟨k',e1,e2⟩:=zAx e
  have hm:=zVj e1
  have hc:=(yp hok hm).1
  have hf:k' = .free:=by
   rcases e2 with z|⟨_,z⟩
   ·subst z
    rcases hk' with z|z
    ·exact absurd z hc
    ·exact z
   ·exact z
  subst hf
  exact ⟨_,zJc hm⟩
 ·exact zU0 (hlt b hb)
 ·exact (hex b hb).2.2.2.2.1 x c (cellsOk x c e)
 ·have h1:=(hex b hb).2.2.2.1
  rcases h1 with z|z
  ·exact I.ok.noex b o e z
  ·exact absurd (zUm (zUo (I.ok.bs b o e).1) z) (zVp _)
 ·have h1:=I.stkSub b hf
  rcases zUg.mp h1 with z|z
  ·exact (hex b hb).2.1 z
  ·exact (hex b hb).2.2.1 z
theorem zLz (N nm:List Str):(zHc N nm).length=N.length+nm.length:=by simp [zHc]
theorem zKb {pins:PNt} {σ:L2.St} {H:Hp} {s:Shared} (I:Inv X pins σ H s) (hk:scope.kind = .function) (hok:zAV X.N nm scope.names X.env.scope.names=true) {ex:List Addr} (hex:∀ b∈ex,FpOk X pins H b) (hlt:∀ b∈ex,b<s.heap.objs.size)
  {h₁:Heap} {m₁:MGt} {tk:Nat} (hn:h₁.Ns s.heap.objs.size m₁) (keep:∀ b o,s.heap.get? b=some o->h₁.get? b=some o) :
  Inv (zk X nm scope s.heap.objs.size s H ex) [] (σ++List.replicate nm.length none) H { s with heap:=h₁,toks:=tk }:=by
 have ok:=zLy (nm:=nm) (scope:=scope) I hk hok hex hlt
 have cellsOk:∀ x c,(zEc scope.names X.env.cells).lookup x=some c->X.env.cells.lookup x=some c:=λx c e=>by
  obtain ⟨h1,h2⟩:=zEd e
  have h3:=(yp hok h1).2.2.2 rfl
  obtain ⟨c',h4⟩:=I.ok.has x h3
  rw [h4] at h2
  rw [h4,h2];rfl
 refine ⟨ok,rfl,I.bare,Un.kept keep,⟨m₁,hn,λi x v e1 e2 e3=>?_⟩,λx c e=>?_,I.hok.fresh (zUn _),λx c e=>I.freeC x c (cellsOk x c e),λp hp=>(by simp [zk] at hp),I.hok.kept keep,?_⟩
 ·have hi:i<X.N.length:=by
   by_cases hi:i<σ.length
   ·rw [<- I.len];exact hi
   ·rw [zU8 (by omega),zVT] at e2
    split at e2<;>cases e2
  have e1':(X.N.map (λy=>if nm.contains y then ("" : Str) else y))[i]?=some x:=by
   have:(zHc X.N nm)[i]?=some x:=e1
   unfold zHc at this
   rwa [zU5 (by simpa using hi)] at this
  have e2':σ[i]?=some (some v):=by rwa [zU5 (by rw [I.len];exact hi)] at e2
  rw [zVK] at e1'
  obtain ⟨y,ey,e4⟩:=zUZ.mp e1'
  have e3':∃ k,(relabel scope X.env).names.lookup x=some k/\(k = .local\/k = .cell\/k = .free):=by
   rcases e3 with z|z|z
   ·exact ⟨_,z,.inl rfl⟩
   ·exact ⟨_,z,.inr (.inl rfl)⟩
   ·exact ⟨_,z,.inr (.inr rfl)⟩
  obtain ⟨k,hk1,hk2⟩:=e3'
  obtain ⟨k',hk3,hk4⟩:=zAx hk1
  have hm:=zVj hk3
  by_cases hc:nm.contains y=true
  ·rw [zUp hc] at e4
   exact absurd e4.symm (yp hok hm).2.1
  ·rw [zVD hc] at e4
   subst e4
   obtain ⟨n1,n2⟩:=zN7 hok (zU3 ey) hc hk3
   have hf:k' = .free:=by
    rcases hk4 with z|⟨_,z⟩
    ·subst z
     rcases hk2 with z|z|z
     ·exact absurd z n1
     ·exact absurd z n2
     ·exact z
    ·exact z
   subst hf
   have ho:=(yp hok hm).2.2.2 rfl
   obtain ⟨m0,hn0,hl0⟩:=I.loc
   obtain ⟨u,r,l⟩:=hl0 i y v ey e2' (by rcases ho with z|z;exact .inr (.inl z);exact .inr (.inr z))
   refine ⟨u,r,?_⟩
   rcases l with ⟨z,_⟩|⟨_,c,hc1,hc2⟩
   ·have z':X.env.scope.names.lookup y=some .local:=z
    rcases ho with q|q
    ·rw [q] at z';cases z'
    ·rw [q] at z';cases z'
   ·right
    refine ⟨?_,c,?_,?_⟩
    ·rcases hk2 with z|z|z
     ·subst z
      rcases hk4 with q|⟨q,_⟩<;>cases q
     ·exact .inl (by rw [<- z];exact hk1)
     ·exact .inr (by rw [<- z];exact hk1)
    ·show (zEc scope.names X.env.cells).lookup y=some c
     rw [zJc hm,hc1];rfl
    ·obtain ⟨o,q1,q2⟩:=hc2
     exact ⟨o,keep _ _ q1,q2⟩
 ·obtain ⟨v,o,q1,q2⟩:=I.cell x c (cellsOk x c e)
  exact ⟨v,o,keep _ _ q1,q2⟩
 ·show _=(zHc X.N nm).length
  rw [zLz,zUr,zWs,I.len]
def zBu (n:Nat) (g:D->Rho->Option Rho):Prop:=∀ d ρ ρ1,g d ρ=some ρ1->ρ1.length=ρ.length/\(∀ i,i<n->ρ1[i]?=ρ[i]?)/\∀ (i:Nat) (s:Sl),ρ1[i]?=some s->ρ[i]?=some s\/∃ d,s = .v d
theorem yB {n i:Nat} (h:n<=i):zBu n (gN i):=λd ρ ρ1 e=>by
 cases e
 exact ⟨by simp,λj hj=>zU2 (by omega),λj u h=>(zu h).elim (λz=>.inr ⟨d,z.2.1⟩) λz=>.inl z.2⟩
def zGX (n:Nat) (g:List D->Rho->Option Rho):Prop:=∀ d ρ ρ1,g d ρ=some ρ1->ρ1.length=ρ.length/\(∀ i,i<n->ρ1[i]?=ρ[i]?)/\∀ (i:Nat) (s:Sl),ρ1[i]?=some s->ρ[i]?=some s\/∃ d,s = .v d
theorem zHd {n:Nat}:zGX n gNl:=λd ρ ρ1 e=>by
 cases d with
 |nil=>cases e;exact ⟨rfl,λ_ _=>rfl,λ_ _ h=>.inl h⟩
 |cons _ _=>cases e
theorem zCs {n:Nat} {g:D->Rho->Option Rho} {gs:List D->Rho->Option Rho} (h1:zBu n g) (h2:zGX n gs):zGX n (gCs g gs):=λd ρ ρ1 e=>by
 cases d with
 |nil=>cases e
 |cons d ds=>
  obtain ⟨ρ2,e1,e2⟩:=zUX.mp e
  obtain ⟨a1,a2,a3⟩:=h1 _ _ _ e1
  obtain ⟨b1,b2,b3⟩:=h2 _ _ _ e2
  exact ⟨b1.trans a1,λi hi=>(b2 i hi).trans (a2 i hi),λi u h=>(b3 i u h).elim (a3 i u) .inr⟩
theorem zJd {n k:Nat} {gs:List D->Rho->Option Rho} (h2:zGX n gs):zBu n (gT k gs):=λd ρ ρ1 e=>by
 cases d with
 |tup ds=>
  simp only [gT] at e
  split at e
  ·exact h2 _ _ _ e
  ·cases e
 |_=>cases e
theorem Er.drop {K:Fg} {G H:Hp} {ρ ρ1:Rho} {σ:L2.St} {m:Nat} (e:Er K G H ρ1 σ) (hl:ρ1.length=(ρ++List.replicate m Sl.un).length) (hk:∀ i,i<ρ.length->ρ1[i]?=(ρ++List.replicate m Sl.un)[i]?):Er K G H (ρ++List.replicate m .un) σ:=by
 have low:∀ {i:Nat} {s:Sl},(ρ++List.replicate m .un)[i]?=some s->s = .un\/ρ1[i]?=some s:=λ{i s} h=>by
  by_cases hi:i<ρ.length
  ·right;rw [hk i hi];exact h
  ·rw [zU8 (by omega),zVT] at h
   split at h<;>cases h
   exact .inl rfl
 refine ⟨hl.symm.trans e.len,λi d h=>?_,λi u h o=>?_,λi j s t a b ne h1 o1 h2 o2 q1 q2=>?_⟩
 ·rcases low h with z|q
  ·cases z
  ·exact e.val i d q
 ·rcases low h with z|q
  ·subst z;cases o
  ·exact e.slot i u q o
 ·rcases low h1 with z|q
  ·subst z;cases o1
  rcases low h2 with z|q'
  ·subst z;cases o2
  exact e.sep i j s t a b ne q o1 q' o2 q1 q2
theorem Er.toSt {K:Fg} {G H:Hp} {ρ:Rho} {σ:L2.St} (e:Er K G H ρ σ) (s:zi G H):StR K G (qt H ρ σ) G H ρ σ:=
 ⟨e,⟨s,zi.refl _,zEZ,λb o e n=>by rw [e] at n;cases n⟩,λi u a h o q c m=>zDV h o q m⟩
theorem zEe.grow {K:Fg} {G H H':Hp} {ρ:Rho} {σ:L2.St} {a:Addr} (e:Er K G H ρ σ) (t:zi H H') (n:zEe H ρ σ a):zEe H' ρ σ a:=λj u b h o q=>by rw [e.fp t h o q];exact n j u b h o q
theorem zEe.upd {K:Fg} {G H:Hp} {ρ:Rho} {σ:L2.St} {a:Addr} {o:HO} (e:Er K G H ρ σ) (n:zEe H ρ σ a):zEe (L2.upd H a o) ρ σ a:=λj u b h ob q=>by
 obtain ⟨b',h1,h2,_⟩:=e.slot j u h ob
 rw [q] at h1;cases h1
 rw [(h2.same (zi.refl _) λc m v z=>by rw [zK (λy=>n j u b h ob q (by rw [<- y];exact m))];exact z).2]
 exact n j u b h ob q
theorem zEe.new {K:Fg} {G H:Hp} {ρ:Rho} {σ:L2.St} {a:Addr} (e:Er K G H ρ σ) (n:H a=none):zEe H ρ σ a:=λj u b h o q m=>by
 obtain ⟨⟨x,z⟩,_⟩:=e.there h o q m
 rw [n] at z;cases z
theorem Er.updOther {K:Fg} {G H:Hp} {ρ:Rho} {σ:L2.St} {a:Addr} {o:HO} (e:Er K G H ρ σ) (n:zEe H ρ σ a):Er K G (upd H a o) ρ σ:=e.hop (zi.refl _) λi s b h ob q c m=>
 ⟨λu z=>by rw [zK (λy=>n i s b h ob q (by rw [<- y];exact m))];exact z,(e.there h ob q m).2⟩
theorem zEe.app {K:Fg} {G H H':Hp} {ρ:Rho} {σ τ:L2.St} {a:Addr} {m:Nat} (n:zEe H' ρ σ a) (e:Er K G H ρ σ):zEe H' (ρ++List.replicate m .un) (σ++τ) a:=λj u b h1 h2 h3=>by
 by_cases hj:j<ρ.length
 ·rw [zU5 hj] at h1
  rw [zU5 (by rw [<- e.len];exact hj)] at h3
  exact n j u b h1 h2 h3
 ·rw [zU8 (by omega),zVT] at h1
  split at h1<;>cases h1
  cases h2
theorem zEe.drop {H:Hp} {ρ ρ1:Rho} {σ:L2.St} {a:Addr} {m:Nat} (n:zEe H ρ1 σ a) (hk:∀ i,i<ρ.length->ρ1[i]?=(ρ++List.replicate m Sl.un)[i]?):zEe H (ρ++List.replicate m .un) σ a:=λj u b h1 h2 h3=>by
 by_cases hj:j<ρ.length
 ·exact n j u b (by rw [hk j hj];exact h1) h2 h3
 ·rw [zU8 (by omega),zVT] at h1
  split at h1<;>cases h1
  cases h2
theorem zN8 {K:Fg} {G H:Hp} {ρ ρ1:Rho} {σ σ1:L2.St} {a:Addr} {o:HO} (e:Er K G H ρ σ) (n:zEe H ρ σ a) (st:StR K G (qt H ρ σ) G H ρ1 σ1) (k:∀ (i:Nat) (s:Sl),ρ1[i]?=some s->ρ[i]?=some s\/∃ d,s = .v d) (h:H a=some o):zEe H ρ1 σ1 a:=λj u b h1 h2 h3 m=>by
 cases ho:u.isOwn with
 |true=>
  have q:=st.ows j u b h1 ho h3 a m
  unfold qt at q
  split at q
  ·rename_i hh
   obtain ⟨i',u',a',w1,w2,w3,w4⟩:=hh
   exact n i' u' a' w1 (Sl.obj_of_own w2) w3 w4
  ·rw [h] at q;cases q
 |false=>
  rcases k j u h1 with z|⟨d,z⟩
  ·cases u with
   |b c x=>
    obtain ⟨a1,e1,e2,_⟩:=e.slot j _ z rfl
    obtain ⟨a2,e3,e4,_⟩:=st.er.slot j _ h1 rfl
    rw [h3] at e3;cases e3
    have y1:=e2.2;have y2:=e4.2
    subst y1;subst y2
    exact n j _ _ z rfl e1 m
   |_=>first|(cases h2;done)|(cases ho;done)
  ·subst z;cases h2
theorem zHe {prog:Program} {w:World} {A:Around} {R:Result->Shared->Prop} {s:Shared} {it acc:Value} {env:Env} (W:Nat->Shared->Prop)
  (turn:∀ n s,W n s->wpAny (model prog w) A (pyNext it) (λr s₁=>match r with
   |none=>R (.ok .next) s₁
   |some v=>wpAny (model prog w) A (letOwnedTupleGo tg it v) (λ_ s₁=>wpAny (model prog w) A (assign tg env v) (λ_ s₂=>
     wpAny (model prog w) A (forIn ifs true λc r=>if r=true then do let ok <- isTrue c env (eval c env);pure (ForInStep.yield ok) else pure (ForInStep.yield r)) (λok s₃=>
      if ok=true then wpAny (model prog w) A (eval elt env) (λx s₄=>
       wpAny (model prog w) A (call (.builtin "list.append") [acc,x]) (λ_ s₅=>∃ m,m<n/\W m s₅) (notedBy (model prog w) A env λe s'=>R (.error e) s') s₄) (notedBy (model prog w) A env λe s'=>R (.error e) s') s₃
      else ∃ m,m<n/\W m s₃) (notedBy (model prog w) A env λe s'=>R (.error e) s') s₂) (notedBy (model prog w) A env λe s'=>R (.error e) s') s₁) (notedBy (model prog w) A env λe s'=>R (.error e) s') s₁) (notedBy (model prog w) A env λe s'=>R (.error e) s') s)
  (n:Nat) (h:W n s) :
  codeAny (model prog w) A (.compLoop (.ListComp elt [⟨tg,iter,ifs,0⟩] scope pos) 0 it acc env) R s:=by
 refine codeAny_loop rfl W (λn s hI=>?_) n h
 show wpAny _ A ((compTurn (.ListComp elt [⟨tg,iter,ifs,0⟩] scope pos) 0 it acc env).onRaise (λx=>do noteFrame x env;theTreesLotGoes x)) _ _ s
 refine wpAny_noted ?_
 rw [compTurn_list]
 refine zUe (wpAny_standAt (zUe (zVM (turn n s hI) (λr s₁ h₁=>?_) λ_ _ h'=>h')))
 cases r with
 |none=>exact zUl h₁
 |some v=>
  refine zUe (zVM h₁ (λ_ s₁ h₁=>?_) λ_ _ h'=>h')
  refine zUe (zVM h₁ (λ_ s₂ h₂=>zUe (zVM h₂ (λok s₃ h₃=>?_) λ_ _ h'=>h')) λ_ _ h'=>h')
  cases ok with
  |false=>exact zUl ⟨rfl,h₃⟩
  |true=>
   exact zUe (zUe (zVM h₃ (λx s₄ h₄=>zUe (zVM h₄ (λ_ s₅ h₅=>zUl (zUl ⟨rfl,h₅⟩)) λ_ _ h'=>h')) λ_ _ h'=>h'))
theorem zL0 {X:Cx} {pins:PNt} {σ:L2.St} {H G:Hp} {s:Shared} {ρ:Rho} {b:Bool} {E:VSt} (hx:X.xe=λ_ _=>False) (ht:STs X ifs p) (I:Inv X pins σ H s) (sm:zi G H) (er:Er X.K G H ρ σ) (hp:p ρ=some b) {Q:Bool->Shared->Prop}
  (hQ:∀ G' H' s',Inv X pins σ H' s'->zd G H G' H'->Q b s') :
  wpAny (model X.prog X.w) X.A (forIn ifs true λc r=>if r=true then do let ok <- isTrue c X.env (eval c X.env);pure (ForInStep.yield ok) else pure (ForInStep.yield r)) Q E s:=by
 rcases ht with ⟨rfl,rfl⟩|⟨c,rfl,hb⟩
 ·cases hp
  rw [List.forIn_nil]
  exact zUl (hQ G H s I (zd.refl sm))
 ·rw [List.forIn_cons]
  simp only [zVU]
  have:=hb pins s σ H (λk H'=>k=b/\∃ G',zd G H G' H') I ⟨G,ρ,b,sm,er,hp,λG' H' t=>⟨rfl,G',t⟩⟩
  rw [hx] at this
  refine zUe (zUe (zVM this (λk s1 h1=>?_) λ_ _ z=>z.elim))
  obtain ⟨H',I',rfl,G',t⟩:=h1
  refine zUl ?_
  show wpAny _ _ (forIn [] _ _) _ _ _
  rw [List.forIn_nil]
  exact zUl (hQ G' H' s1 I' t)
end
end RD
namespace RD
open PySem PySem.Spec PyProof.Rows L2 SeqAt
theorem zEf (x:Int):∀ xs,(zId x xs).Perm (x::xs)
 | []=>zWS _
 |y::ys=>by
  unfold zId
  split
  ·exact zWS _
  ·exact ((zEf x ys).cons y).trans (List.Perm.swap x y ys)
theorem zA8:∀ xs,(zCL xs).Perm xs
 | []=>zWS _
 |x::xs=>(zEf x _).trans ((zA8 xs).cons x)
theorem zL1 (x:Int):∀ xs,xs.Pairwise (·<=·)->(zId x xs).Pairwise (·<=·)
 | [],_=>by simp [zId]
 |y::ys,h=>by
  unfold zId
  split
  ·rename_i hxy
   refine zUu.mpr ⟨λz hz=>?_,h⟩
   rcases zUg.mp hz with rfl|hz
   ·exact hxy
   ·exact Int.le_trans hxy ((zUu.mp h).1 z hz)
  ·rename_i hxy
   refine zUu.mpr ⟨λz hz=>?_,zL1 x ys (zUu.mp h).2⟩
   rcases zUg.mp ((zEf x ys).mem_iff.mp hz) with rfl|hz
   ·omega
   ·exact (zUu.mp h).1 z hz
theorem zGY:∀ xs,(zCL xs).Pairwise (·<=·)
 | []=>by simp [zCL]
 |x::xs=>zL1 x _ (zGY xs)
theorem zCt:∀ (a b:List Int),a.Perm b->a.Pairwise (·<=·)->b.Pairwise (·<=·)->a=b:=λa b p h1 h2=>
 p.eq_of_pairwise (λx y _ _ h3 h4=>Int.le_antisymm h3 h4) h1 h2
def leS (a b:Str):Prop:=ltS b a=false
theorem zHf {a b:Str} (h1:leS a b) (h2:leS b a):a=b:=by
 unfold leS ltS at h1 h2
 have h1':¬ b.cps.toList<a.cps.toList:=by simpa using h1
 have h2':¬ a.cps.toList<b.cps.toList:=by simpa using h2
 have h3:a.cps.toList=b.cps.toList:=List.le_antisymm (zWW.mp h1') (zWW.mp h2')
 cases a;cases b
 simp only [Str.mk.injEq]
 exact Array.toList_inj.mp h3
theorem zHg {a b c:Str} (h1:leS a b) (h2:leS b c):leS a c:=by
 unfold leS ltS at *
 have h1':¬ b.cps.toList<a.cps.toList:=by simpa using h1
 have h2':¬ c.cps.toList<b.cps.toList:=by simpa using h2
 have:=List.le_trans (zWW.mp h1') (zWW.mp h2')
 simpa using zWW.mpr this
theorem zL2 {a b:Str} (h:ltS a b=true):leS a b:=by
 unfold leS ltS at *
 have h':a.cps.toList<b.cps.toList:=by simpa using h
 simpa using zWW.mpr (List.le_of_lt h')
theorem zEg (x:Str):∀ xs,(zIe x xs).Perm (x::xs)
 | []=>zWS _
 |y::ys=>by
  unfold zIe
  split
  ·exact ((zEg x ys).cons y).trans (List.Perm.swap x y ys)
  ·exact zWS _
theorem zA9:∀ xs,(zAw xs).Perm xs
 | []=>zWS _
 |x::xs=>(zEg x _).trans ((zA9 xs).cons x)
theorem zL3 (x:Str):∀ xs,xs.Pairwise leS->(zIe x xs).Pairwise leS
 | [],_=>by simp [zIe]
 |y::ys,h=>by
  unfold zIe
  split
  ·rename_i hxy
   refine zUu.mpr ⟨λz hz=>?_,zL3 x ys (zUu.mp h).2⟩
   rcases zUg.mp ((zEg x ys).mem_iff.mp hz) with rfl|hz
   ·exact zL2 hxy
   ·exact (zUu.mp h).1 z hz
  ·rename_i hxy
   have hxy':leS x y:=by unfold leS;simpa using hxy
   refine zUu.mpr ⟨λz hz=>?_,h⟩
   rcases zUg.mp hz with rfl|hz
   ·exact hxy'
   ·exact zHg hxy' ((zUu.mp h).1 z hz)
theorem zGZ:∀ xs,(zAw xs).Pairwise leS
 | []=>by simp [zAw]
 |x::xs=>zL3 x _ (zGZ xs)
theorem zFn {p:Str}:∀ {l:List Str},risingS p l=true->(p::l).Pairwise leS
 | [],_=>by simp
 |x::r,h=>by
  have h':(!ltCps x.cps.toList p.cps.toList && risingS x r)=true:=h
  rw [zVR] at h'
  have h2:=zFn h'.2
  have h1:leS p x:=by
   unfold leS ltS
   have:=h'.1
   rw [ltCps_eq] at this
   simpa using this
  refine zUu.mpr ⟨λz hz=>?_,h2⟩
  rcases zUg.mp hz with rfl|hz
  ·exact h1
  ·exact zHg h1 ((zUu.mp h2).1 z hz)
theorem zFo {l:List Str} (h:sortedS l=true):l.Pairwise leS:=by
 cases l with
 |nil=>simp
 |cons p l=>exact zFn h
theorem zCu (a b:List Str) (p:a.Perm b) (h1:a.Pairwise leS) (h2:b.Pairwise leS):a=b:=
 p.eq_of_pairwise (λx y _ _ h3 h4=>zHf h3 h4) h1 h2
theorem zEh:∀ {xs:List D} {is:List Int},zKa xs=some is->xs=is.map .int
 | [],is,h=>by cases h;rfl
 |d::r,is,h=>by
  cases d with
  |int i=>
   obtain ⟨js,e,rfl⟩:=zUZ.mp h
   rw [zUc,<- zEh e]
  |_=>cases h
theorem zCv:∀ {xs:List D} {is:List Str},zGW xs=some is->xs=is.map .str
 | [],is,h=>by cases h;rfl
 |d::r,is,h=>by
  cases d with
  |str i=>
   obtain ⟨js,e,rfl⟩:=zUZ.mp h
   rw [zUc,<- zCv e]
  |_=>cases h
section
variable {K:Fg} {G:Hp}
theorem zHh:∀ {is:List Int} {vs:List V},Reps K G (is.map .int) vs->vs=is.map V.int
 | [],vs,h=>yR.mp h
 |i::is,vs,h=>by
  obtain ⟨v,r,rfl,h1,h2⟩:=za.mp h
  rw [yC.mp h1,zHh h2];rfl
theorem zEi:∀ {is:List Str} {vs:List V},Reps K G (is.map .str) vs->vs=is.map V.str
 | [],vs,h=>yR.mp h
 |i::is,vs,h=>by
  obtain ⟨v,r,rfl,h1,h2⟩:=za.mp h
  rw [zAR.mp h1,zEi h2];rfl
theorem Reps.strs:∀ (ns:List Str),Reps K G (ns.map D.str) (ns.map V.str)
 | []=>Reps.nil
 |n::ns=>Reps.cons (zAR.mpr rfl) (Reps.strs ns)
end
theorem zCD:∀ {ss:List Str} {us:List Value},yP (ss.map V.str) us->StrsAre us ss
 | [],us,r=>by cases r;exact .nil
 |s::ss,us,r=>by
  cases r with
  |cons r1 r2=>obtain ⟨t,rfl⟩:=r1;exact .cons s t (zCD r2)
theorem zDX:∀ {ss:List Str} {us:List Value},StrsAre us ss->yP (ss.map V.str) us
 |_,_,.nil=>.nil
 |_,_,.cons y t h=>.cons ⟨t,rfl⟩ (zDX h)
theorem zDY:∀ {ns:List Int} {us:List Value},IntsAre us ns->yP (ns.map V.int) us
 |_,_,.nil=>.nil
 |_,_,.cons y t h=>.cons ⟨t,rfl⟩ (zDY h)
section
variable {X:Cx} {a b:Expr} {f g:ROd} {fl:ROl} {pos:Pos}
noncomputable def zCw:D->Option (List D)
 |.lst xs=>zFV (.lst xs)
 |_=>none
theorem zFp:zAt X (.builtin "sorted") (cF X.K zCw):=by
 intro pins s σ H xs us Q I r h
 obtain ⟨G,d1,ys,x,rfl,sm,r1,e,k⟩:=h
 obtain ⟨u,rfl,ru⟩:=zDR r
 cases d1 with
 |lst zs=>
  simp only [zCw,zFV,zPn,zUb] at e
  obtain ⟨a,vs,rfl,q,w⟩:=r1.list sm
  cases ru
  obtain ⟨its,vv,p,hz⟩:=I.list q
  split at e
  ·rename_i hl
   have l1:=w.length
   have l2:=vv.length
   have fin:∀ {out:Array Value} {vs':List V} {ys':List D},yP vs' out.toList->Reps X.K G ys' vs'->vs'.length<=sizeLine->ys=ys'->EP X pins σ Q (.ref (s.heap.objs.size+1)) { s with heap:=sortedAll s.heap its out }:=λ{out vs' ys'} h1 h2 h3 h4=>by
    subst h4
    have hn:H (s.heap.objs.size+1)=none:=I.hok.fresh (zWk _)
    obtain ⟨e',he⟩:=sortedAll_at s.heap its out
    refine ⟨.ref (s.heap.objs.size+1),upd H (s.heap.objs.size+1) (.lst vs'),I.laid (t':=s.toks) (λ_ _=>sortedAll_old) (zWk _) ⟨h3,out.toList,e',h1,?_⟩,rfl,k _ vs' G _ (zd.newH sm hn) hn (sm.free hn) zM h2⟩
    rw [he]
   split at e
   ·rename_i is hi
    cases e
    have:=zEh hi
    subst this
    have hv:=zHh w
    subst hv
    refine sorted_ints p.isList (zFi vv) (by omega) λout ns' a1 a2 a3=>?_
    have e5:=zCt _ _ (a2.trans (zA8 is).symm) a3 (zGY is)
    subst e5
    refine fin (zDY a1) (Reps.ints _) ?_ rfl
    have:=(zA8 is).length_eq
    rw [zUi] at l1 ⊢
    simp only [zUi] at hl
    exact zAj (by omega)
   ·rename_i hi
    obtain ⟨ss,e2,rfl⟩:=zUZ.mp e
    have:=zCv e2
    subst this
    have hv:=zEi w
    subst hv
    refine sorted_strs p.isList (zCD vv) (by omega) λout ns' a1 a2 a3=>?_
    have e5:=zCu _ _ (a2.trans (zA9 ss).symm) (zFo a3) (zGZ ss)
    subst e5
    refine fin (zDX a1) (Reps.strs _) ?_ rfl
    have:=(zA9 ss).length_eq
    rw [zUi] at l1 ⊢
    simp only [zUi] at hl
    exact zAj (by omega)
  ·cases e
 |_=>cases e
noncomputable def zKc (sep:Str):D->Option D
 |.lst xs=>(zGW xs).bind λss=>if (ss.map (·.length)).sum+ss.length*sep.length<=1000000 then some (.str (Txt.join sep ss)) else none
 |_=>none
theorem zQy {sep:Str} {j:Nat} {p1 apos cpos:Pos} (ha:SR X a f)
  (hbase:attributeBase (.Constant (.str sep) j p1) "join" X.env (eval (.Constant (.str sep) j p1) X.env)=eval (.Constant (.str sep) j p1) X.env:=by rfl)
  (hfew:((backTo cpos (starEach [a] X.env)).all (λx=>!x.1) && (backToKw cpos (keywordEach [] X.env)).all (λx=>x.1.isSome)
   && decide ([a].length+([]:List Keyword).length+(if ([]:List Keyword).isEmpty then 0 else 1)<30))=true:=by rfl)
  (hline:(apos.endLine == cpos.line)=true:=by rfl) (hs:starEach [a] X.env=(false,eval a X.env)::starEach [] X.env:=by rfl) (hplain:(backTo cpos (starEach [] X.env)).any (·.1)=false:=by rfl) :
  SE X (.Call (.Attribute (.Constant (.str sep) j p1) "join" apos) [a] [] cpos) (b1 f (zKc sep)):=by
 have hm:MtR X "str.join" (λx xs H Q=>x = .str sep/\cR X.K (zKc sep) xs H Q):=by
  rintro pins s σ H x xs v us Q I rx r ⟨ex,G,d1,d,y,ey,sm,r1,e,k⟩
  subst ex ey
  obtain ⟨t,rfl⟩:=rx
  obtain ⟨u,rfl,ru⟩:=zDR r
  cases d1 with
  |lst zs=>
   obtain ⟨ss,e1,e⟩:=zUX.mp e
   split at e
   ·rename_i hl
    cases e
    obtain ⟨a,vs,rfl,q,w⟩:=r1.list sm
    cases ru
    obtain ⟨its,vv,p,hz⟩:=I.list q
    have:=zCv e1
    subst this
    have hv:=zEi w
    subst hv
    exact join_list p.isList (zCD vv) (by omega) λt' k'=>⟨.str _,H,I.tok _,⟨_,rfl⟩,k _ G H (zd.refl sm) (zAR.mpr rfl)⟩
   ·cases e
  |_=>cases e
 refine zA7 (zGO PySem.F.plainAttrs_str PySem.F.slot_str_join PySem.F.type_str_join hm zPX (yF ha qC hs) hbase hfew hline hs hplain) λσ H Q h=>?_
 refine ⟨rfl,?_⟩
 obtain ⟨G,ρ,d,s,er,ef,k⟩:=h
 obtain ⟨d1,e1,ef⟩:=zUX.mp ef
 exact ⟨G,ρ,d1,s,er,e1,λv1 G1 H1 t1 r1=>⟨rfl,G1,d1,d,v1,rfl,t1.s,r1,ef,λv G' H' t r=>k v G' H' (t1.trans t) r⟩⟩
noncomputable def zIN (i:Nat) (f:ROd):ROo:=λρ=>(gL ρ i).bind λxs=>if xs.length<16000000 then (f ρ).map λd=>.nx (ρ.set i (.l (xs ++ [d]))) else none
variable {o:Expr} {i:Nat} {apos cpos:Pos}
theorem yu (i:Nat) (ho:PE X o (zBi i)) (ha:SE X a f)
  (hbase:attributeBase o "append" X.env (eval o X.env)=eval o X.env:=by rfl)
  (hfew:((backTo cpos (starEach [a] X.env)).all (λx=>!x.1) && (backToKw cpos (keywordEach [] X.env)).all (λx=>x.1.isSome)
   && decide ([a].length+([]:List Keyword).length+(if ([]:List Keyword).isEmpty then 0 else 1)<30))=true:=by rfl)
  (hline:(apos.endLine == cpos.line)=true:=by rfl) (hs:starEach [a] X.env=(false,eval a X.env)::starEach [] X.env:=by rfl) (hplain:(backTo cpos (starEach [] X.env)).any (·.1)=false:=by rfl)
  (hsw:swapsWith (.Call (.Attribute o "append" apos) [a] [] cpos) none pos.line X.env=pure false:=by rfl) :
  SS X (.Expr (.Call (.Attribute o "append" apos) [a] [] cpos) pos) (zIN i f):=
 ym (zBq (zGO zVf zWA zWB zBs ho (yF ha qC hs) hbase hfew hline hs hplain) hsw) λE σ H=>by
  rintro ⟨G0,H0,G,ρ,o,st,ef,k⟩
  obtain ⟨xs,e1,ef⟩:=zUX.mp ef
  split at ef
  ·rename_i hl
   obtain ⟨d,e2,rfl⟩:=zUZ.mp ef
   have e1':=zN4 e1
   obtain ⟨a1,vs,q1,q2,q3,q4⟩:=st.er.own i xs e1'
   refine ⟨_,q1,.inl ⟨rfl,vs,SqL.of q3⟩,G,ρ,d,st.bs.gh,st.er,e2,λv G' H' t r=>?_⟩
   have st':=st.step t
   obtain ⟨a2,vs2,w1,w2,w3,w4⟩:=st'.er.own i xs e1'
   rw [q1] at w1;cases w1
   exact ⟨a1,vs2,v,rfl,rfl,w3,zUm (by rw [<- w4.length];exact hl) (by decide),k σ G' _ (st'.mut e1' rfl rfl q1 (λys z=>by cases z;exact ⟨_,rfl,w4.append (Reps.cons r Reps.nil)⟩) λ_ z=>by cases z)⟩
  ·cases ef
noncomputable def zL4 (i:Nat) (fi f:ROd):ROo:=λρ=>(f ρ).bind λd=>(gL ρ i).bind λxs=>(fi ρ).bind λdi=>match di with
 |.int n=>(ixN xs.length n).map λj=>.nx (ρ.set i (.l (xs.set j d)))
 |_=>none
theorem zN9 {ie:Expr} {fi:ROd} {tpos:Pos} (i:Nat) (ho:PE X o (zBi i)) (hi:SE X ie fi) (ha:SE X a f)
  (hg:∀ v,assign (.Subscript o ie tpos) X.env v=(do
   let ov <- holding [v] (eval o X.env)
   let iv <- holding [v,ov] (eval ie X.env)
   standAt tpos
   holding [v,ov,iv] (setItem ov iv v)
   release [v,ov,iv] []):=by intro _;rfl)
  (hs:swapsWithSole [.Subscript o ie tpos] a pos.line X.env=pure false:=by rfl) (hw:swappedStores [.Subscript o ie tpos] a X.env=pure none:=by rfl)
  (h1:(assignEach [.Subscript o ie tpos] X.env).map (·.2) = [assign (.Subscript o ie tpos) X.env]:=by rfl):SS X (.Assign [.Subscript o ie tpos] a pos) (zL4 i fi f):=
 ym (zLK ha (zPZ ho hi zJT hg) hs hw h1) λE σ H=>by
  rintro ⟨G0,H0,G,ρ,o,st,ef,k⟩
  obtain ⟨d,e1,ef⟩:=zUX.mp ef
  obtain ⟨xs,e2,ef⟩:=zUX.mp ef
  obtain ⟨di,e3,ef⟩:=zUX.mp ef
  have e2':=zN4 e2
  cases di with
  |int n=>
   obtain ⟨j,e4,rfl⟩:=zUZ.mp ef
   refine ⟨G,ρ,d,st.bs.gh,st.er,e1,λv G1 H1 t1 r1=>?_⟩
   obtain ⟨a1,vs,q1,q2,q3,q4⟩:=(st.step t1).er.own i xs e2'
   refine ⟨_,q1,G1,ρ,_,t1.s,st.er.step t1,e3,λv2 G2 H2 t2 r2=>?_⟩
   have st':=(st.step t1).step t2
   obtain ⟨a2,vs2,w1,w2,w3,w4⟩:=st'.er.own i xs e2'
   rw [q1] at w1;cases w1
   exact ⟨a1,vs2,n,j,rfl,yC.mp r2,w3,by rw [<- w4.length];exact e4,k σ G2 _ (st'.mut e2' rfl rfl q1 (λys z=>by cases z;exact ⟨_,rfl,w4.set j (Rep.mono t2.g _ _ r1)⟩) λ_ z=>by cases z)⟩
  |_=>cases ef
end
noncomputable def Ite (K:Fg) (a:Addr):It:=
 ⟨λi H=>∃ xs x,SqL K H a xs/\xs[i]?=some x,λi H x H'=>∃ p y,H p=none/\x = .ref p/\H'=upd H p (.tup [.int i,y])/\∀ xs,SqL K H a xs->xs[i]?=some y,λi H=>∃ xs,SqL K H a xs/\xs.length<=i⟩
noncomputable def zDZ:Nat->List D->List D
 |_,[]=>[]
 |n,x::xs=>D.tup [.int (n:Int),x]::zDZ (n+1) xs
theorem zEj:∀ (n:Nat) (xs:List D),(zDZ n xs).length=xs.length
 |_,[]=>rfl
 |n,x::xs=>by simp [zDZ,zEj (n+1) xs]
theorem zHi:∀ (n:Nat) (xs:List D) (i:Nat) (d:D),(zDZ n xs)[i]?=some d->∃ x,xs[i]?=some x/\d=D.tup [.int ((n+i:Nat):Int),x]
 |_,[],_,_,h=>by simp [zDZ] at h
 |n,x::xs,0,d,h=>by simp [zDZ] at h;exact ⟨x,rfl,by simp [h.symm]⟩
 |n,x::xs,i+1,d,h=>by
  obtain ⟨y,e1,e2⟩:=zHi (n+1) xs i d (by simpa [zDZ] using h)
  exact ⟨y,by simpa using e1,by rw [e2];congr 3;omega⟩
section
variable {P:Program} {w:World} {K:Fg}
theorem zL5 {es:List Expr} {k:Nat} {tpos:Pos} (a e it:Addr) (hei:e≠it):zQL P w K (.Tuple es k tpos) (Ite K a) [e,it] e (λi h=>(∃ old,IsEnum h e it i old)/\h.IsListIter it a i) where
 mem:=by simp
 obj:=λi h st b hb=>by
  obtain ⟨⟨old,he⟩,o,ho,hc,hd⟩:=st
  rcases zUg.mp hb with rfl|hb
  ·exact ⟨_,he,λv z=>by cases z⟩
  ·have e1:b=it:=by simpa using hb
   subst e1
   exact ⟨o,ho,λv z=>by rw [hd] at z;cases z⟩
 keep:=λi h h' st hk=>by
  obtain ⟨⟨old,he⟩,o,ho,hc,hd⟩:=st
  exact ⟨⟨old,hk e (by simp) _ he⟩,o,hk it (by simp) o ho,hc,hd⟩
 item:=by
  intro X e1 e2 e3 hcalm i pins s σ H E I hf st go
  subst e1 e2 e3
  obtain ⟨⟨old,he⟩,hit⟩:=st
  obtain ⟨xs,x,hq,hx⟩:=go
  obtain ⟨its,vv,p,hz⟩:=I.list hq
  obtain ⟨u,hu,ru⟩:=vv.get hx
  have fe:=hf e (by simp)
  have fi:=hf it (by simp)
  have hne_e:∀ b o,H b=some o->b≠e:=λb o q z=>by rw [z,fe.1] at q;cases q
  have hne_i:∀ b o,H b=some o->b≠it:=λb o q z=>by rw [z,fi.1] at q;cases q
  refine wpAny_pyNext_enum_item he hit p.isList (by simpa using hu) hei λh' ho hit' hT hsz hk=>⟨_,rfl,?_⟩
  refine wpAny_letOwnedTupleGo_enum ho λh'' he'' hs''=>?_
  have hn:H s.heap.objs.size=none:=I.hok.fresh (zUn _)
  have hks:∀ b o,b≠e->b≠it->s.heap.get? b=some o->h''.get? b=some o:=λb o h1 h2 q=>(hs''.2 b h1).trans (hk b o h1 h2 q)
  have helt:e<s.heap.objs.size:=zUo he
  have hTe:s.heap.objs.size≠e:=zW7 helt
  have hT'':h''.get? s.heap.objs.size=some { cls:=.type "tuple",data:=.seq #[.int i s.toks,u] }:=(hs''.2 _ hTe).trans hT
  have hne_T:∀ b o,H b=some o->b≠s.heap.objs.size:=λb o q z=>by rw [z,hn] at q;cases q
  have hilt:it<s.heap.objs.size:=by obtain ⟨o,q,_⟩:=hit;exact zUo q
  have fch:∀ b∈[e,it],(b∈X.ex\/X.s₀.heap.objs.size<=b)/\b≠X.env.locals/\(∀ x c,X.env.cells.lookup x=some c->c≠b)/\∀ p∈X.pn++pins,p.1≠b:=λb hb=>⟨(hf b hb).2.2.2.1,(hf b hb).2.1,(hf b hb).2.2.2.2.1,(hf b hb).2.2.2.2.2⟩
  have off:∀ b,b∉[e,it]->b≠e/\b≠it:=λb hb=>⟨λz=>hb (by simp [z]),λz=>hb (by simp [z])⟩
  have I':Inv X pins σ (upd H s.heap.objs.size (.tup [.int i,x])) { s with heap:=h'',toks:=s.toks+1 }:=by
   refine I.step (g':=s.gens) (d':=s.drawn) (ch:=[e,it]) fch (λb o _ _ hc q _=>hks b o (off b hc).1 (off b hc).2 q) (λb o _ _ hc q _=>⟨o.slots,hks b o (off b hc).1 (off b hc).2 q⟩)
    (λb o _ q n=>by rw [zK (zU0 (zUo q))];exact n) (λb o hc q=>⟨o,hks b o (off b hc).1 (off b hc).2 q⟩)
    (λb ys q=>by rw [zK (hne_T b _ q)];exact q) (λb o' u' q=>by rw [zK (hne_T b _ q)];exact q) (λb ps q=>⟨#[],by rw [zK (hne_T b _ q),q];simp⟩)
    (λm hm=>?_) (λb u' q=>?_) I.bare
   ·obtain ⟨o,es',ep,ho',r⟩:=hm
    exact ⟨o,es',ep,hks _ o (Ne.symm fe.2.1) (Ne.symm fi.2.1) ho',r⟩
   ·by_cases hb:b=s.heap.objs.size
    ·subst hb
     rw [zM] at q;cases q
     exact ⟨by show 2<=sizeLine;decide,[.int i s.toks,u],.cons ⟨_,rfl⟩ (.cons ru .nil),⟨_,hT'',rfl,_,rfl,rfl⟩⟩
    ·rw [zK hb] at q
     refine (I.hok b u' q).stay (λc v hc r=>?_) (λc r=>by rw [zK (hne_T c _ r)];exact r) λc ys r=>by rw [zK (hne_T c _ r)];exact r
     rcases hc with z|z
     ·subst z;exact hks c v (hne_e c _ q) (hne_i c _ q) r
     ·exact hks c v (hne_e c _ z) (hne_i c _ z) r
  refine ⟨.ref s.heap.objs.size,_,I',rfl,⟨s.heap.objs.size,x,hn,rfl,rfl,λys hy=>?_⟩,⟨⟨_,by simpa using he''⟩,?_⟩,λb hb=>?_⟩
  ·rw [<- I.list_inj hq hy];exact hx
  ·obtain ⟨o,q1,q2⟩:=hit'
   exact ⟨o,(hs''.2 it (Ne.symm hei)).trans q1,q2⟩
  ·have:b≠s.heap.objs.size:=by
    rcases zUg.mp hb with z|z
    ·rw [z];exact zU0 helt
    ·have z':b=it:=by simpa using z
     rw [z'];exact zU0 hilt
   rw [zK this];exact (hf b hb).1
 done:=by
  intro X e1 e2 e3 hcalm i pins s σ H E I hf st stop
  subst e1 e2 e3
  obtain ⟨⟨old,he⟩,hit⟩:=st
  obtain ⟨xs,hq,hx⟩:=stop
  obtain ⟨its,vv,p,hz⟩:=I.list hq
  have fi:=hf it (by simp)
  refine wpAny_pyNext_enum_end (I.ok.hd hcalm) he hit p.isList (by simp;rw [<- vv.length];exact hx) λh' hk=>⟨rfl,?_⟩
  exact I.turned (t':=s.toks) (λb o hb q=>hk b o hb q) fi.1 fi.2.1 fi.2.2.2.1 fi.2.2.2.2.1 fi.2.2.2.2.2
 self:=λA i s Q E st h=>by
  obtain ⟨⟨old,he⟩,_⟩:=st
  exact wpAny_pyIter_enum he h
end
theorem zQz {K:Fg} {G:Hp} {a:Addr} {vs:List V} {ds:List D} (h:SqL K G a vs) (r:Reps K G ds vs):zNe K G (Ite K a) (zDZ 0 ds) where
 go:=λi H s hi=>by
  rw [zEj] at hi
  exact ⟨vs,vs[i]'(by rw [<- r.length];exact hi),s.seq h,by simp [<- r.length,hi]⟩
 stop:=λi H s hi=>by
  rw [zEj] at hi
  exact ⟨vs,s.seq h,by rw [<- r.length];exact hi⟩
 yld:=λi G1 H x H' s1 s hi y=>by
  obtain ⟨p,y,hp,rfl,rfl,hy⟩:=y
  refine ⟨_,zd.new s hp,λd e=>?_⟩
  obtain ⟨d',e1,rfl⟩:=zHi 0 ds i d e
  obtain ⟨v,e2,e3⟩:=r.get e1
  have:=hy vs ((s1.trans s).seq h)
  rw [e2] at this;cases this
  refine zBM.mpr ⟨p,_,rfl,zM,Reps.cons (yC.mpr (by simp)) (Reps.cons ?_ Reps.nil)⟩
  exact Rep.mono (yj (s.free hp)) _ _ (Rep.mono s1 _ _ e3)
section
variable {X:Cx} {a:Expr} {f:ROd} {es:List Expr} {k:Nat} {tpos p pos:Pos}
noncomputable def iEn (f:ROd):ROl:=λρ=>(f ρ).bind λd=>match d with
 |.lst xs=>some (zDZ 0 xs)
 |_=>none
theorem zIf (hg:Gl X "enumerate") (hm:X.mg "enumerate" = none) (ha:SE X a f) (hs:starEach [a] X.env=(false,eval a X.env)::starEach [] X.env:=by rfl) (hpl:(backTo pos (starEach [] X.env)).any (·.1)=false:=by rfl) :
  SI X (.Tuple es k tpos) (.Call (.Name "enumerate" p) [a] [] pos) (iEn f):=by
 rintro pins s σ H R I ⟨G,ρ,ds,sm,er,ef,kk⟩
 obtain ⟨d,e1,e2⟩:=zUX.mp ef
 cases d with
 |lst xs=>
  cases e2
  refine zWI (zFf I hg hm boot_enumerate ?_)
  refine zV0 (thn (yF ha qC hs pos pins s σ H (λvs H'=>∃ G' v,vs = [v]/\zd G H G' H'/\Rep X.K G' (.lst xs) v) I ⟨G,ρ,_,sm,er,e1,λv G' H' t r=>⟨G',v,rfl,t,r⟩⟩) λus s1 ⟨vs,H1,I1,rv,G1,v,ev,t1,r1⟩=>?_) hs hpl
  subst ev
  obtain ⟨u,rfl,ru⟩:=zDR rv
  obtain ⟨l,vs,rfl,q,w⟩:=zAS.mp r1
  cases ru
  obtain ⟨its,vv,pl,hz⟩:=I1.list (t1.s.seq q)
  refine call_enumerate_list pl.isList λh' he hit hsz hk=>?_
  refine wpAny_pyIter_enum he ?_
  have hlt:=λb o (e:s1.heap.get? b=some o)=>hk b o e
  have I2:Inv X pins σ H1 { s1 with heap:=h' }:=I1.kept (t':=s1.toks) hk
  have n1:H1 s1.heap.objs.size=none:=I1.hok.fresh (zUn _)
  have n2:H1 (s1.heap.objs.size+1)=none:=I1.hok.fresh (zWk _)
  refine ⟨s1.heap.objs.size+1,[s1.heap.objs.size+1,s1.heap.objs.size],_,_,H1,rfl,I2,zL5 l (s1.heap.objs.size+1) s1.heap.objs.size (Nat.succ_ne_self _),⟨⟨_,he⟩,hit⟩,λb hb=>?_,kk _ G1 H1 t1 (zQz q w)⟩
  rcases zUg.mp hb with z|z
  ·rw [z];exact I1.fpOk (zWk _) n2
  ·have z':b=s1.heap.objs.size:=by simpa using z
   rw [z'];exact I1.fpOk (zUn _) n1
 |_=>cases e2
end
theorem zAE:bootBuiltins "tuple" = some (.type "tuple"):=by decide +kernel
theorem zOA:bootBuiltins "int" = some (.type "int"):=by decide +kernel
theorem zTQ:bootBuiltins "list" = some (.type "list"):=by decide +kernel
theorem zTR:bootBuiltins "dict" = some (.type "dict"):=by decide +kernel
theorem zEG:bootBuiltins "sorted" = some (.builtin "sorted"):=by decide +kernel
theorem b_all:bootBuiltins "all" = some (.builtin "all"):=by decide +kernel
theorem b_any:bootBuiltins "any" = some (.builtin "any"):=by decide +kernel
theorem zTS:bootBuiltins "bool" = some (.type "bool"):=by decide +kernel
theorem zHj:bootBuiltins "isinstance" = some (.builtin "isinstance"):=by decide +kernel
structure Bl (mg:MGt):Prop where
 len:mg "len" = none
 range:mg "range" = none
 enumerate:mg "enumerate" = none
 sorted:mg "sorted" = none
 tuple:mg "tuple" = none
 list:mg "list" = none
 int:mg "int" = none
 dict:mg "dict" = none
 isinstance:mg "isinstance" = none
 all:mg "all" = none
 any:mg "any" = none
 str:mg "str" = none
 bool:mg "bool" = none
theorem gl {X:Cx} {x:Str} (h:X.env.kindOf x=some .globalImplicit):Gl X x:=h
theorem zHk {k:Nat} {A:Around} (hr:zAO k A):A.units+30<cLine:=by have:=hr.un;omega
structure z7 (P:Program) (w:World) (K:Fg) (mg:MGt) (base:Heap) (k:Nat) (x:Str) (n:Nat) (F:List D->Option D):Prop where
 ex:∃ f fd ps,zCb P w K mg base CX0 k f fd ps (spD K F n)/\mg x=some (.ref f)/\PySem.W.keepIn K (.ref f)=true/\L2.zAu K fd ps []
section
variable {X:Cx} {e:Expr} {es:List Expr} {fl:ROl} {pos:Pos}
theorem zL {k n:Nat} {F:List D->Option D} {x:Str} {p:Pos} (h:z7 X.prog X.w X.K X.mg X.base k x n F) (hr:zAO k X.A) (hg:X.env.kindOf x=some .globalImplicit)
  (hn:(e::es).length=n) (ha:SA X (e::es) fl) (hdb:(x == ("__debug__" : Str))=false:=by decide) (he:starEach (e::es) X.env=(false,eval e X.env)::starEach es X.env:=by rfl)
  (hpl:(backTo pos (starEach es X.env)).any (·.1)=false:=by rfl):SE X (.Call (.Name x p) (e::es) [] pos) (λρ=>(fl ρ).bind F):=by
 obtain ⟨f,fd,ps,FO,hm,hk,hb⟩:=h.ex
 exact zQr FO hr hg hm hk hb hn ha hdb he hpl
end
theorem qU {P:Program} {w:World} {K:Fg} {mg:MGt} {base:Heap} {x qual:Str} {st:Stmt} {fa:Addr} {fd:FuncData} {N ps:List Str} {k:Nat} {F:ROo} {f:List D->Option D}
  (FF:Fun K x qual st fa fd) (hm:mg x=some (.ref fa)) (hb:L2.zAu K fd ps []) (S:zT N ps (zH st))
  (hbody:∀ (cdv:Value) (A:Around) (outer:List Env) (s:Shared) (H:Hp),zAO k (A.deeper (envOfC qual (zH st) s.heap.objs.size fa cdv))->SSs (zGM CX0 P w K mg base N qual (zH st) fa cdv A outer s H E0).nox (yE st) F)
  (hf:∀ ds d,ds.length=ps.length->f ds=some d->zDW N F ds=some d):z7 P w K mg base (k+1) x ps.length f:=
 ⟨fa,fd,ps,zTJ FF S hbody hf,hm,FF.kp,hb⟩
theorem yZ {N nm:List Str} (h:decide (zHc N nm).Nodup=true):(zHc N nm).Nodup:=of_decide_eq_true h
end RD
namespace PySem
open PySem.Spec PyProof.Rows
theorem zL6:typeLookup (.type "tuple") "keys" = pure none:=am_miss_of_fast (by decide +kernel)
set_option maxHeartbeats 1000000 in
theorem zCf {prog:Program} {w:World} {A:Around} {E:VSt} {s:Shared} {a:Addr} {o:Obj} {xs:Array Value} {k:Nat} {name:Str} {Q:Option Value->Shared->Prop}
  (hx:s.heap.get? a=some o) (hc:o.cls = .type "tuple") (hdat:o.data = .seq xs k) (hd:o.dict=none) (hmiss:typeLookup (.type "tuple") name=pure none) (hname:(["__module__","__name__","__qualname__","__doc__","__annotations__"]:List Str).contains name=false) (hA:A.handled=none)
  (h:∀ h' tk,(∀ b ob,s.heap.get? b=some ob->h'.get? b=some ob)->Q none { s with heap:=h',toks:=tk }) (hsz:name.length+100<=sizeLine:=by size_fits) :
  wpAny (model prog w) A (getAttr? (.ref a) name) Q E s:=by
 obtain ⟨c,dct,dat,sl⟩:=o
 simp only at hc hdat hd
 subst hc hdat hd
 obtain ⟨hp,g,d,tk,os⟩:=s
 have hT:∀ tk',(⟨hp,g,d,tk',os⟩:Shared).TypeIs (.ref a) "tuple":=λ_=>⟨_,hx,rfl⟩
 have f1:=sub_AttributeError
 have f3:=F.slot_tuple_getattribute.lookup
 have f4:=F.slot_tuple_getattribute.bind (.ref a)
 have f5:=am_tuple_getattr_none
 unfold getAttr? getAttrBy? getAttrBy
 repeat (any_goals (first|assumption|exact hT _|((with_reducible show wpAny _ _ (call (Value.builtin "tuple.__getattribute__") _ _) _ _ _);refine call_meets F.slot_tuple_getattribute (hT _) am_entry_tuple_getattribute (F.args_tuple_getattribute_2 _ _) (meets_getattribute_miss_tuple a xs k sl name _ hmiss hname hsz) ⟨hx,hA,λh' tk' e hx'=>?_⟩)|wp_step))
 obtain ⟨t',u',he⟩:=hx'.there
 show wpAny _ _ (getattributeRaised _ _ _ _ _ _ _) _ _ _
 unfold getattributeRaised
 repeat (any_goals (first|assumption|wp_step))
 exact h _ _ hx'.keeps
end PySem
namespace PySem
open PySem.Spec PyProof.Rows
namespace F
theorem entry_dict_update_loop:entryFor table "dict.update.loop" = some Builtin.«dict.update.loop»:=entryFor_of_tree (by kernel_rfl)
theorem plain_dict_update_loop:plainId "dict.update.loop" = true:=by decide +kernel
end F
section
variable {prog:Program} {w:World} {K:Type} [DecidableEq K] {knd:KeyKind prog w K} {A:Around} {R:Result->Shared->Prop}
theorem zD7 (hA:A.handled=none) {d it a:Addr} {items:Array Value} (hda:d≠a) (hdi:d≠it) (hai:a≠it) (ps:List (K×Value))
  (hl:ps.length=items.size) :
  ∀ (n i:Nat) (s:Shared) (kvs:List (K×Value)),items.size-i=n->i<=items.size->s.heap.IsTupleIter it a i->s.heap.IsTuple a items->s.heap.DictOf knd d kvs->kvs.length<=i ->
   (∀ j (hj:j<items.size),i<=j->∃ b key,items[j] = .ref b/\b≠d/\b≠it/\s.heap.IsTuple b #[key,(ps[j]'(by omega)).2]/\knd.is (ps[j]'(by omega)).1 key=true)->items.size<=1000 ->
   (∀ h' tk,h'.DictOf knd d ((ps.drop i).foldl (λacc p=>stored acc p.1 p.2) kvs)->(∀ b o,b≠d->b≠it->s.heap.get? b=some o->h'.get? b=some o)->R (.ok (.ret .none)) { s with heap:=h',toks:=tk }) ->
   codeAny (model prog w) A (.builtin "dict.update.loop" ⟨[.ref d,.ref it,rawInt i,.none],[]⟩) R s:=by
 intro n
 induction n with
 |zero=>
  intro i s kvs hk hi hit ht hd hlk hps hsz hR
  have hin:i=items.size:=by omega
  subst hin
  refine codeAny_builtin F.entry_dict_update_loop ?_
  rw [Around.under_plainId F.plain_dict_update_loop _]
  show wpAny _ A.in1 (pyNext (.ref it) >>= _) _ _ s
  refine zUe (wpAny_pyNext_tuple_end hA hit ht (by simp) λh' hk'=>?_)
  show wpAny _ A.in1 (Builtin.Dict.addKeywords d [] >>= λ_=>ret Value.none) _ _ _
  refine zUe (zUl (zUl ?_))
  have e:ps.drop items.size = []:=by rw [<- hl];exact List.drop_length
  rw [e] at hR
  refine hR h' s.toks ?_ λb o h1 h2 q=>hk' b o h2 q
  obtain ⟨o,es,ep,ho,rest⟩:=hd
  exact ⟨o,es,ep,hk' d o hdi ho,rest⟩
 |succ n ih=>
  intro i s kvs hk hi hit ht hd hlk hps hsz hR
  have hlt:i<items.size:=by omega
  have hlp:i<ps.length:=by omega
  obtain ⟨b,key,hb1,hb2,hb3,hb4,hb5⟩:=hps i hlt (zUn _)
  refine codeAny_builtin F.entry_dict_update_loop ?_
  rw [Around.under_plainId F.plain_dict_update_loop _]
  show wpAny _ A.in1 (pyNext (.ref it) >>= _) _ _ s
  refine zUe (wpAny_pyNext_tuple_item hit ht (x:=.ref b) (by rw [<- hb1];simp [hlt]) λh₁ hit₁ hs₁=>?_)
  have hb₁:h₁.IsTuple b #[key,(ps[i]'hlp).2]:=by
   obtain ⟨o,q,r⟩:=hb4
   exact ⟨o,(hs₁.2 b hb3).trans q,r⟩
  have hd₁:h₁.DictOf knd d kvs:=by
   obtain ⟨o,es,ep,ho,rest⟩:=hd
   exact ⟨o,es,ep,(hs₁.2 d hdi).trans ho,rest⟩
  have hT:(⟨h₁,s.gens,s.drawn,s.toks,s.os⟩:Shared).TypeIs (.ref b) "tuple":=by
   obtain ⟨o,q,c,_⟩:=hb₁
   exact ⟨o,q,c⟩
  obtain ⟨ob,qb,cb,nb,db⟩:=id hb₁
  show wpAny _ A.in1 (holding [Value.ref b] _ >>= _) _ _ _
  refine zUe (zV5 ?_)
  refine zUe ?_
  have h6:wpAny (model prog w) A.in1 (Builtin.Dict.pairItems (.ref b)) (λl s'=>l = [key,(ps[i]'hlp).2]/\s'=⟨h₁,s.gens,s.drawn,s.toks,s.os⟩) (λ_ _=>False) ⟨h₁,s.gens,s.drawn,s.toks,s.os⟩:=by
   unfold Builtin.Dict.pairItems
   refine zUe (zWZ hT ?_)
   rw [zUp (by decide)]
   refine zUe (wpAny_seqItems qb db (zUl ⟨by simp,rfl⟩))
  refine wpAny_tryCatch (zVM h6 (λl s' hl'=>?_) λ_ _ z=>z.elim)
  obtain ⟨rfl,rfl⟩:=hl'
  show wpAny _ _ (holding [key,(ps[i]'hlp).2] (dictSet d key (ps[i]'hlp).2)) _ _ _
  refine zV5 (wpAny_dictSet_pairs (hsz:=zVF (show kvs.length<=1000 by omega) (by decide)) hb5 hd₁ λh₂ hd₂ hs₂=>?_)
  refine zUl ⟨plainId_quiet F.plain_dict_update_loop _,?_⟩
  have hit₂:h₂.IsTupleIter it a (i+1):=by
   obtain ⟨o,q,r⟩:=hit₁
   exact ⟨o,(hs₂.2 it (Ne.symm hdi)).trans q,r⟩
  have kp:∀ b o,b≠d->b≠it->s.heap.get? b=some o->h₂.get? b=some o:=λb o q1 q2 q3=>(hs₂.2 b q1).trans ((hs₁.2 b q2).trans q3)
  have ht₂:h₂.IsTuple a items:=by
   obtain ⟨o,q,r⟩:=ht
   exact ⟨o,kp a o (Ne.symm hda) hai q,r⟩
  have hlen:(stored kvs (ps[i]'hlp).1 (ps[i]'hlp).2).length<=i+1:=by
   unfold stored
   split
   ·rw [zUi];omega
   ·rw [zUr];simp;omega
  have:=ih (i+1) ⟨h₂,s.gens,s.drawn,s.toks+1,s.os⟩ (stored kvs (ps[i]'hlp).1 (ps[i]'hlp).2) (by omega) hlt hit₂ ht₂ hd₂ hlen (λj hj hij=>by
   obtain ⟨b',key',c1,c2,c3,⟨o',c4,c5⟩,c6⟩:=hps j hj (by omega)
   exact ⟨b',key',c1,c2,c3,⟨o',kp b' o' c2 c3 c4,c5⟩,c6⟩) hsz (λh' tk hd' hk'=>by
   have e:ps.drop i=ps[i]'hlp::ps.drop (i+1):=zV6 hlp
   rw [e,zWK] at hR
   exact hR h' tk hd' λb o q1 q2 q3=>hk' b o q1 q2 (kp b o q1 q2 q3))
  have e2:((i+1:Nat):Int)=(i:Int)+1:=by push_cast;rfl
  rw [e2] at this
  exact this
end
end PySem
namespace RD
open PySem PySem.Spec PyProof.Rows L2
noncomputable def zFq:D->Option Key
 |.int i=>some (.inl i)
 |.str x=>some (.inr x)
 |_=>none
noncomputable def zFr:List D->Option (List (Key×D))
 | []=>some []
 |.tup [k,v]::r=>(zFq k).bind λk'=>(zFr r).map ((k',v) :: ·)
 |_=>none
noncomputable def zKd (kvs:List (Key×D)) (k:Key) (v:D):List (Key×D):=if (kvs.any λkv=>decide (kv.1=k))=true then kvs.map (λkv=>if kv.1=k then (kv.1,v) else kv) else kvs ++ [(k,v)]
noncomputable def zDa (kvs:List (Key×D)) (k:Key):Option D:=(kvs.find? λkv=>decide (kv.1=k)).map (·.2)
noncomputable def zKe:D->Option (List (Key×D))
 |.tup xs=>if xs.length<=1000 then (zFr xs).map λps=>ps.foldl (λacc p=>zKd acc p.1 p.2) [] else none
 |_=>none
section
variable {K:Fg} {G:Hp}
theorem zCx:zA4 K G [] []:=⟨rfl,Reps.nil⟩
theorem zBv {k:Key} {d:D} {v:V} {kvs:List (Key×D)} {ws:List (Key×V)} (r:Rep K G d v) (h:zA4 K G kvs ws):zA4 K G ((k,d)::kvs) ((k,v)::ws):=⟨by simp [h.1],Reps.cons r h.2⟩
theorem zCy {p:Key×D} {kvs:List (Key×D)} {ws:List (Key×V)} (h:zA4 K G (p::kvs) ws):∃ v r,ws=(p.1,v)::r/\Rep K G p.2 v/\zA4 K G kvs r:=by
 obtain ⟨h1,h2⟩:=h
 cases ws with
 |nil=>simp at h1
 |cons q ws=>
  obtain ⟨k,v⟩:=q
  simp only [zUc,zVl] at h1
  obtain ⟨e1,e2⟩:=h1
  obtain ⟨r1,r2⟩:=Reps.inv h2
  exact ⟨v,ws,by simp [e1],r1,e2,r2⟩
theorem zA4.length {kvs:List (Key×D)} {ws:List (Key×V)} (h:zA4 K G kvs ws):kvs.length=ws.length:=by
 have:=zVX List.length h.1
 simpa using this
theorem zA4.any {k:Key}:∀ {kvs:List (Key×D)} {ws:List (Key×V)},zA4 K G kvs ws->(kvs.any λkv=>decide (kv.1=k))=ws.any λkv=>decide (kv.1=k)
 |[],ws,h=>by
  have:=h.length
  cases ws with
  |nil=>rfl
  |cons _ _=>simp at this
 |p::kvs,ws,h=>by
  obtain ⟨v,r,rfl,_,h2⟩:=zCy h
  rw [zV3,zV3,zA4.any h2]
theorem zA4.snoc {k:Key} {d:D} {v:V} (r:Rep K G d v):∀ {kvs:List (Key×D)} {ws:List (Key×V)},zA4 K G kvs ws->zA4 K G (kvs ++ [(k,d)]) (ws ++ [(k,v)])
 |[],ws,h=>by
  have:=h.length
  cases ws with
  |nil=>exact zBv r zCx
  |cons _ _=>simp at this
 |p::kvs,ws,h=>by
  obtain ⟨v',r',rfl,h1,h2⟩:=zCy h
  exact zBv (k:=p.1) h1 (zA4.snoc r h2)
theorem zA4.repl {k:Key} {d:D} {v:V} (r:Rep K G d v):∀ {kvs:List (Key×D)} {ws:List (Key×V)},zA4 K G kvs ws->zA4 K G (kvs.map λkv=>if kv.1=k then (kv.1,d) else kv) (ws.map λkv=>if kv.1=k then (kv.1,v) else kv)
 |[],ws,h=>by
  have:=h.length
  cases ws with
  |nil=>exact zCx
  |cons _ _=>simp at this
 |p::kvs,ws,h=>by
  obtain ⟨v',r',rfl,h1,h2⟩:=zCy h
  rw [zUc,zUc]
  by_cases e:p.1=k
  ·rw [zUp e,zUp e];exact zBv r (zA4.repl r h2)
  ·rw [zVD e,zVD e];exact zBv (k:=p.1) h1 (zA4.repl r h2)
theorem zA4.put {k:Key} {d:D} {v:V} (r:Rep K G d v) {kvs:List (Key×D)} {ws:List (Key×V)} (h:zA4 K G kvs ws):zA4 K G (zKd kvs k d) (zCN ws k v):=by
 unfold zKd zCN
 rw [h.any]
 split
 ·exact h.repl r
 ·exact h.snoc r
theorem zA4.get {k:Key}:∀ {kvs:List (Key×D)} {ws:List (Key×V)},zA4 K G kvs ws->(zDa kvs k=none/\zAv ws k=none)\/∃ d v,zDa kvs k=some d/\zAv ws k=some v/\Rep K G d v
 |[],ws,h=>by
  have:=h.length
  cases ws with
  |nil=>exact .inl ⟨rfl,rfl⟩
  |cons _ _=>simp at this
 |p::kvs,ws,h=>by
  obtain ⟨v',r',rfl,h1,h2⟩:=zCy h
  by_cases e:p.1=k
  ·exact .inr ⟨p.2,v',by simp [zDa,zU9,e],zEA e,h1⟩
  ·rcases zA4.get (k:=k) h2 with ⟨a,b⟩|⟨d,v,a,b,c⟩
   ·exact .inl ⟨by simpa [zDa,zU9,e] using a,by rw [zCn e];exact b⟩
   ·exact .inr ⟨d,v,by simpa [zDa,zU9,e] using a,by rw [zCn e];exact b,c⟩
theorem zA4.fold {ps:List (Key×D)}:∀ {ws:List (Key×V)} {kvs:List (Key×D)} {us:List (Key×V)},zA4 K G ps ws->zA4 K G kvs us->zA4 K G (ps.foldl (λacc p=>zKd acc p.1 p.2) kvs) (ws.foldl (λacc p=>zCN acc p.1 p.2) us):=by
 induction ps with
 |nil=>
  intro ws kvs us h h'
  have:=h.length
  cases ws with
  |nil=>exact h'
  |cons _ _=>simp at this
 |cons p ps ih=>
  intro ws kvs us h h'
  obtain ⟨v',r',rfl,h1,h2⟩:=zCy h
  show zA4 K G (ps.foldl _ (zKd kvs p.1 p.2)) (r'.foldl _ (zCN us p.1 v'))
  exact ih (ws:=r') h2 (h'.put h1)
end
theorem zQ0 {ws:List (Key×V)}:∀ {qs:List (Key×Value)} {us:List (Key×V)} {vs:List (Key×Value)},KV ws qs->KV us vs->KV (ws.foldl (λacc p=>zCN acc p.1 p.2) us) (qs.foldl (λacc p=>stored acc p.1 p.2) vs):=by
 induction ws with
 |nil=>intro qs us vs h h';cases h;exact h'
 |cons p ps ih=>
  intro qs us vs h h'
  cases h with
  |cons h1 h2=>
   obtain ⟨e,r⟩:=h1
   rw [zWK,zWK,<- e]
   exact ih h2 (h'.put p.1 r)
theorem zOB {ws:List (Key×V)}:∀ {us:List (Key×V)},(ws.foldl (λacc p=>zCN acc p.1 p.2) us).length<=us.length+ws.length:=by
 induction ws with
 |nil=>intro us;simp
 |cons p ps ih=>
  intro us
  rw [zWK]
  have h1:=ih (us:=zCN us p.1 p.2)
  have h2:=zAP us p.1 p.2
  simp only [zUa]
  omega
section
variable {X:Cx}
theorem zBw {K:Fg} {G:Hp} {d:D} {k:Key} {v:V} (h:zFq d=some k) (r:Rep K G d v):v=kV k:=by
 cases d with
 |int i=>cases h;exact yC.mp r
 |str x=>cases h;exact zAR.mp r
 |_=>cases h
theorem zFs {pins:PNt} {σ:L2.St} {G H:Hp} {s:Shared} (I:Inv X pins σ H s) (sm:zi G H):∀ {xs:List D} {vs:List V} {its:List Value} {ps:List (Key×D)},zFr xs=some ps->Reps X.K G xs vs->yP vs its ->
  ∃ (ws:List (Key×V)) (qs:List (Key×Value)),zA4 X.K G ps ws/\KV ws qs/\qs.length=its.length /\
   ∀ j (hj:j<its.length) (hq:j<qs.length),∃ b key,its[j] = .ref b/\s.heap.IsTuple b #[key,qs[j].2]/\(zy X.prog X.w).is qs[j].1 key=true
 |[],vs,its,ps,h,r,q=>by
  cases h
  have:=yR.mp r
  subst this
  cases q
  exact ⟨[],[],zCx,.nil,rfl,λj hj=>by simp at hj⟩
 |d::xs,vs,its,ps,h,r,q=>by
  unfold zFr at h
  split at h
  ·cases ‹_ = []›
  ·rename_i k v r' heq
   cases heq
   obtain ⟨k',e1,h⟩:=zUX.mp h
   obtain ⟨ps',e2,rfl⟩:=zUZ.mp h
   obtain ⟨v0,vs',rfl,r1,r2⟩:=za.mp r
   cases q with
   |cons q1 q2=>
    rename_i u0 us0
    obtain ⟨ws,qs,a1,a2,a3,a4⟩:=zFs I sm e2 r2 q2
    obtain ⟨b,vb,rfl,sb,rb⟩:=zCc r1
    cases q1
    obtain ⟨w1,t1,rfl,rk,t2⟩:=za.mp rb
    obtain ⟨w2,t3,rfl,rv,t4⟩:=za.mp t2
    have:=yR.mp t4
    subst this
    have ek:=zBw e1 rk
    subst ek
    obtain ⟨itb,vb,tb,_⟩:=I.tuple (qT sm sb)
    obtain ⟨u1,u2,rfl,p1,p2⟩:=zSv vb
    refine ⟨(k',w2)::ws,(k',u2)::qs,zBv rv a1,.cons ⟨rfl,p2⟩ a2,by simp [a3],λj hj hq=>?_⟩
    cases j with
    |zero=>exact ⟨b,u1,rfl,tb,zGQ p1⟩
    |succ j=>exact a4 j (by simpa using hj) (by simpa using hq)
  ·cases h
noncomputable def cFD (K:Fg) (op:D->Option (List (Key×D))):List V->Hp->VK->Prop:=λxs H Q=>∃ G d1 kvs x,xs = [x]/\zi G H/\zCC K G H d1 x/\op d1=some kvs /\
 ∀ a ws G' H',zd G H G' H'->H a=none->G' a=none->H' a=some (.dK ws)->zA4 K G' kvs ws->Q (.ref a) H'
theorem zKf (hcalm:X.calm=true):zAt X (.type "dict") (cFD X.K zKe):=by
 intro pins s σ H xs us Q I r h
 obtain ⟨G,d1,kvs,x,rfl,sm,r1,e,k⟩:=h
 obtain ⟨u,rfl,ru⟩:=zDR r
 cases d1 with
 |tup zs=>
  simp only [zKe] at e
  split at e
  ·rename_i hl
   obtain ⟨ps,e1,rfl⟩:=zUZ.mp e
   obtain ⟨a,vs,rfl,q,w⟩:=r1.tup sm
   cases ru
   obtain ⟨its,vv,tn,hz⟩:=I.tupleN q
   obtain ⟨ws,qs,a1,a2,a3,a4⟩:=zFs I sm e1 w vv
   have l1:=w.length
   have l2:=vv.length
   have hnD:H s.heap.objs.size=none:=I.hok.fresh (zUn _)
   refine callType_codes (Q₁:=λobj s₁=>obj = .ref s.heap.objs.size/\s₁={ s with heap:=s.heap.push { cls:=.type "dict",data:=.dict #[] } }) F.kt_called_dict (F.kt_typeCall_dict_1 _) F.entry_dict_init (kt_code_dict_new _ ⟨rfl,rfl⟩) ?_
   rintro obj s₁ ⟨rfl,rfl⟩
   have hnew:(s.heap.push { cls:=.type "dict",data:=.dict #[] }).DictOf (zy X.prog X.w) s.heap.objs.size []:=Heap.DictOf.new s.heap
   have alt:a<s.heap.objs.size:=tn.lt
   have tn1:zA6 (s.heap.push { cls:=.type "dict",data:=.dict #[] }) a its.toArray:=by
    obtain ⟨o,q1,q2⟩:=tn
    exact ⟨o,zUk _ q1,q2⟩
   have sz1:(s.heap.push { cls:=.type "dict",data:=.dict #[] }).objs.size=s.heap.objs.size+1:=zWn ..
   refine ⟨hnew.typeIs,F.args_dict_init_2 _ _,?_⟩
   unfold Builtin.«dict.__init__»
   refine zUe ?_
   unfold Builtin.Dict.selfAndRest
   refine zUe (wpAny_notOrdered_dict hnew.typeIs ?_)
   show wpAny _ _ (pure (s.heap.objs.size,[Value.ref a])) _ _ _
   refine zUl ?_
   show wpAny _ _ (Builtin.Dict.updateFrom "dict.__init__" s.heap.objs.size (.ref a) [] .none) _ _ _
   unfold Builtin.Dict.updateFrom
   refine zUe (zWZ (T:="tuple") tn1.tup.typeIs ?_)
   rw [zUp (by decide)]
   obtain ⟨o,ho,hc,n,hd,hdict⟩:=id tn1
   refine zUe (zCf ho hc hd hdict zL6 (by decide +kernel) (I.ok.hd hcalm) (λh₂ tk₂ k₂=>?_) (by decide))
   show wpAny _ _ (rule _ >>= _) _ _ _
   refine zUe (wpAny_rule ?_)
   have tn2:zA6 h₂ a its.toArray:=⟨o,k₂ a o ho,hc,n,hd,hdict⟩
   refine zUe (wpAny_pyIter_tuple (show h₂.IsTuple a its.toArray from tn2.tup) ?_)
   have lt2:s.heap.objs.size<h₂.objs.size:=by
    have q1:(s.heap.push { cls:=.type "dict",data:=.dict #[] }).get? s.heap.objs.size=some { cls:=.type "dict",data:=.dict #[] }:=zU4 _ rfl
    exact zUo (k₂ _ _ q1)
   have kp:∀ b ob,s.heap.get? b=some ob->(h₂.push { cls:=.type "tuple_iterator",data:=.fields #[.ref a,.int 0 0] }).get? b=some ob:=λb ob q=>zUk _ (k₂ b ob (zUk _ q))
   have kD:(h₂.push { cls:=.type "tuple_iterator",data:=.fields #[.ref a,.int 0 0] }).DictOf (zy X.prog X.w) s.heap.objs.size []:=by
    obtain ⟨od,es,ep,q1,q2⟩:=hnew
    exact ⟨od,es,ep,zUk _ (k₂ _ _ q1),q2⟩
   have tn3:(h₂.push { cls:=.type "tuple_iterator",data:=.fields #[.ref a,.int 0 0] }).IsTuple a its.toArray:=⟨o,zUk _ (k₂ a o ho),hc,n,hd⟩
   refine zUl ⟨plainId_quiet F.plain_dict_update_loop _,?_⟩
   refine zD7 (A:=X.A.in1) (knd:=zy X.prog X.w) (a:=a) (items:=its.toArray) (I.ok.hd hcalm) (zW7 alt) (zU0 lt2) (zU0 (Nat.lt_trans alt lt2)) qs (by rw [a3];simp) _ 0 ⟨h₂.push { cls:=.type "tuple_iterator",data:=.fields #[.ref a,.int 0 0] },s.gens,s.drawn,tk₂,s.os⟩ [] rfl (zV7 _) ⟨_,zU4 _ rfl,rfl,rfl⟩ tn3 kD (zUn _) (λj hj _=>?_) (by rw [zUh,<- l2,<- l1];exact hl) λh' tk hd' hk'=>?_
   ·obtain ⟨b,key,b1,b2,b3⟩:=a4 j (by simpa using hj) (by rw [a3];simpa using hj)
    obtain ⟨ob,q1,q2⟩:=b2
    have blt:=zUo q1
    exact ⟨b,key,by simpa using b1,zU0 blt,zU0 (Nat.lt_trans blt lt2),⟨ob,kp b ob q1,q2⟩,b3⟩
   ·have kp':∀ b ob,s.heap.get? b=some ob->h'.get? b=some ob:=λb ob q=>hk' b ob (zU0 (zUo q)) (zU0 (Nat.lt_trans (zUo q) lt2)) (kp b ob q)
    rw [List.drop_zero] at hd'
    have hlen:(ws.foldl (λacc p=>zCN acc p.1 p.2) []).length<=sizeLine:=by
     have q1:=zOB (ws:=ws) (us:=[])
     have q2:=zWO a2
     simp only [zUq] at q1
     exact zAj (by omega)
    have new:zAC X.prog X.w (upd H s.heap.objs.size (.dK (ws.foldl (λacc p=>zCN acc p.1 p.2) []))) h' s.heap.objs.size (.dK (ws.foldl (λacc p=>zCN acc p.1 p.2) [])):=
     ⟨hlen,zVJ.mpr (Ne.symm (zU0 I.big)),_,zQ0 a2 .nil,hd'⟩
    exact ⟨rfl,⟨.ref s.heap.objs.size,_,I.laid (t':=tk) kp' (zUn _) new,rfl,k _ _ G _ (zd.newH sm hnD) hnD (sm.free hnD) zM (zA4.fold a1 zCx)⟩⟩
  ·cases e
 |_=>cases e
variable {a e:Expr} {f:ROd} {i:Nat} {x:Str} {pos pos' p1:Pos}
noncomputable def tFD (K:Fg) (f:Rho->Option (List (Key×D))):TE:=λσ H Q=>∃ G ρ kvs,zi G H/\Er K G H ρ σ/\f ρ=some kvs /\
 ∀ a ws G' H',zd G H G' H'->H a=none->G' a=none->H' a=some (.dK ws)->zA4 K G' kvs ws->Q (.ref a) H'
noncomputable def zOC (i:Nat) (f:Rho->Option (List (Key×D))):ROo:=λρ=>(f ρ).map λd=>.nx (ρ.set i (.m d))
theorem zQ1 {fm:Rho->Option (List (Key×D))} (i:Nat) (he:PE X e (tFD X.K fm)) (hN:X.N.Nodup) (hi:X.N[i]?=some x) (hx:Loc X.env.scope x) (hs:swapsWith e (some (.Name x pos')) pos.line X.env=pure false:=by rfl)
  (hf:X.fn x=true\/X.env.scope.names.lookup x=some .local:=by first|exact .inl rfl|exact .inr rfl|assumption):SS X (.Assign [.Name x pos'] e pos) (zOC i fm):=
 ym (zDw hN hi hx he hs hf) λQ σ H=>by
  rintro ⟨G0,H0,G,ρ,o,st,ef,k⟩
  obtain ⟨d,e1,rfl⟩:=zUZ.mp ef
  refine ⟨G,ρ,d,st.bs.gh,st.er,e1,λa vs G' H' t h1 h2 h3 r=>k _ G' H' (st.setOwn t rfl h1 h2 (λ_ z=>by cases z) λxs z=>?_)⟩
  cases z;exact ⟨vs,h3,r⟩
noncomputable def zQ (i:Nat) (f:ROd):ROo:=zOC i λρ=>(f ρ).bind zKe
noncomputable def zOD (i:Nat):ROo:=zOC i λ_=>some []
theorem zFt (i:Nat) (hN:X.N.Nodup) (hi:X.N[i]?=some x) (hx:Loc X.env.scope x) (hs:swapsWith (.Dict [] [] p1) (some (.Name x pos')) pos.line X.env=pure false:=by rfl)
  (hf:X.fn x=true\/X.env.scope.names.lookup x=some .local:=by first|exact .inl rfl|exact .inr rfl|assumption):SS X (.Assign [.Name x pos'] (.Dict [] [] p1) pos) (zOD i):=
 zQ1 i (zA7 zJW λσ H Q=>by rintro ⟨G,ρ,kvs,sm,er,ef,k⟩;cases ef;exact λp hp=>k p [] G _ (zd.newH sm hp) hp (sm.free hp) zM zCx) hN hi hx hs hf
noncomputable def gM (ρ:Rho) (i:Nat):Option (List (Key×D)):=match ρ[i]? with
 |some (.m kvs)=>some kvs
 |_=>none
theorem zQ2 {ρ:Rho} {i:Nat} {xs:List (Key×D)} (h:gM ρ i=some xs):ρ[i]?=some (.m xs):=by
 unfold gM at h
 split at h
 ·cases h;assumption
 ·cases h
noncomputable def dIn (neg:Bool) (i:Nat) (f:ROd):ROb:=λρ=>(f ρ).bind λd=>(gM ρ i).bind λkvs=>(zFq d).map λk=>if neg then !(zDa kvs k).isSome else (zDa kvs k).isSome
theorem zQ3 {σ:L2.St} {H:Hp} {neg:Bool} {Q:Bool->Hp->Prop} (h:tTs X.K (dIn neg i f) σ H Q) :
  tE X.K f σ H λy H1=>zBi i σ H1 λx H2=>∃ a o,x = .ref a/\zDH H2 a y o/\Q (if neg then !o.isSome else o.isSome) H2:=by
 obtain ⟨G,ρ,b,s,er,ef,k⟩:=h
 obtain ⟨dk,e2,ef1⟩:=zUX.mp ef
 obtain ⟨kvs,e1,ef2⟩:=zUX.mp ef1
 obtain ⟨key,e3,rfl⟩:=zUZ.mp ef2
 have e1':=zQ2 e1
 refine ⟨G,ρ,dk,s,er,e2,λv G' H' t r=>?_⟩
 obtain ⟨a2,ws2,w1,w2,w3,w4⟩:=(er.step t).dic i kvs e1'
 have ek:=zBw e3 r
 subst ek
 refine ⟨_,w1,a2,_,rfl,zDH.k (k:=key) w3,?_⟩
 rcases w4.get (k:=key) with ⟨z,z'⟩|⟨d',v',z1,z2,z3⟩
 ·rw [z'] ;have:=k G' H' t;rw [z] at this;exact this
 ·rw [z2];have:=k G' H' t;rw [z1] at this;exact this
theorem zTT {o:Expr} (hu:X.A.units+1<cLine) (i:Nat) (ho:PE X o (zBi i)) (ha:SE X a f) (hm:behindInMarks .In o=false:=by rfl):SB X (.Compare a [.In] [o] pos) (dIn false i f):=
 zHU (zPY (zPd hu ha ho) hm) λσ H Q h=>by
  obtain ⟨G,ρ,dk,s,er,e2,k⟩:=zQ3 h
  refine ⟨G,ρ,dk,s,er,e2,λv G' H' t r=>?_⟩
  obtain ⟨x',q1,a2,o2,q2,q3,q4⟩:=k v G' H' t r
  exact ⟨x',q1,a2,o2,q2,q3,_,rfl,q4⟩
noncomputable def zOE (i:Nat) (fk f:ROd):ROo:=λρ=>(f ρ).bind λd=>(gM ρ i).bind λkvs=>(fk ρ).bind λdk=>(zFq dk).bind λk=>if kvs.length<1000000 then some (.nx (ρ.set i (.m (zKd kvs k d)))) else none
theorem zL7 {o ie:Expr} {fk:ROd} {tpos:Pos} (hu:X.A.units+1<cLine) (i:Nat) (ho:PE X o (zBi i)) (hi:SE X ie fk) (ha:SE X a f) (hs:swapsWith a (some (.Subscript o ie tpos)) pos.line X.env=pure false:=by rfl) :
  SS X (.Assign [.Subscript o ie tpos] a pos) (zOE i fk f):=
 ym (zLg hu ho hi ha hs) λE σ H=>by
  rintro ⟨G0,H0,G,ρ,o,st,ef,k⟩
  obtain ⟨d,e1,ef1⟩:=zUX.mp ef
  obtain ⟨kvs,e2,ef2⟩:=zUX.mp ef1
  obtain ⟨dk,e3,ef3⟩:=zUX.mp ef2
  obtain ⟨key,e4,ef4⟩:=zUX.mp ef3
  split at ef4
  ·rename_i hl
   cases ef4
   have e2':=zQ2 e2
   refine ⟨G,ρ,d,st.bs.gh,st.er,e1,λv G1 H1 t1 r1=>?_⟩
   obtain ⟨a1,ws,q1,q2,q3,q4⟩:=(st.step t1).er.dic i kvs e2'
   refine ⟨_,q1,G1,ρ,dk,t1.s,st.er.step t1,e3,λv2 G2 H2 t2 r2=>?_⟩
   have st':=(st.step t1).step t2
   obtain ⟨a2,ws2,w1,w2,w3,w4⟩:=st'.er.dic i kvs e2'
   rw [q1] at w1;cases w1
   have ek:=zBw e4 r2
   subst ek
   have hlen:ws2.length<sizeLine:=zUm (by rw [<- w4.length];exact hl) (by decide)
   exact ⟨a1,_,rfl,zLc.k (k:=key) w3 hlen,k σ G2 _ (st'.mut e2' rfl rfl q1 (λys z=>by cases z) λys z=>by cases z;exact ⟨_,rfl,w4.put (Rep.mono t2.g _ _ r1)⟩)⟩
  ·cases ef4
end
noncomputable def zPo (n:Nat) (p:ROb) (F:ROo):ROo:=λρ=>zBd p F n ρ
section
variable {X:Cx} {e a b:Expr} {es:List Expr} {f g:ROd} {fl:ROl} {p:ROb} {pos:Pos} {o:Expr} {apos cpos pos':Pos} {x:Str}
noncomputable def zTU (i j:Nat):ROo:=λρ=>(gL ρ j).bind λxs=>(xs[xs.length-1]?).map λd=>.nx ((ρ.set j (.l xs.dropLast)).set i (.v d))
theorem zTV (i j:Nat) (ho:PE X o (zBi j)) (hN:X.N.Nodup) (hi:X.N[i]?=some x) (hx:Loc X.env.scope x)
  (hbase:attributeBase o "pop" X.env (eval o X.env)=eval o X.env:=by rfl) (hline:(apos.endLine == cpos.line)=true:=by rfl)
  (hs:swapsWith (.Call (.Attribute o "pop" apos) [] [] cpos) (some (.Name x pos')) pos.line X.env=pure false:=by rfl)
  (hf:X.fn x=true\/X.env.scope.names.lookup x=some .local:=by first|exact .inl rfl|exact .inr rfl|assumption) :
  SS X (.Assign [.Name x pos'] (.Call (.Attribute o "pop" apos) [] [] cpos) pos) (zTU i j):=
 ym (zDw hN hi hx (zS2 zVf PySem.F.slot_list_pop PySem.F.type_list_pop zS3 ho hbase hline) hs hf) λE σ H=>by
  rintro ⟨G0,H0,G,ρ,o,st,ef,k⟩
  obtain ⟨xs,e1,ef⟩:=zUX.mp ef
  obtain ⟨d,e2,rfl⟩:=zUZ.mp ef
  have e1':=zN4 e1
  obtain ⟨a1,vs,q1,q2,q3,q4⟩:=st.er.own j xs e1'
  obtain ⟨v,e3,r⟩:=q4.get e2
  rw [q4.length] at e3
  refine ⟨_,q1,.inl ⟨rfl,vs,SqL.of q3⟩,a1,vs,v,rfl,rfl,q3,e3,?_⟩
  exact k _ G _ ((st.mut e1' rfl rfl q1 (λys z=>by cases z;exact ⟨_,rfl,q4.dropLast⟩) λ_ z=>by cases z).setV r)
noncomputable def zTW (i:Nat) (fl:ROl):ROo:=λρ=>(gL ρ i).bind λxs=>(fl ρ).bind λys=>if xs.length+ys.length<=1000000 then some (.nx (ρ.set i (.l (xs++ys)))) else none
theorem zHl (i:Nat) (ho:PE X o (zBi i)) (ha:SF X a fl)
  (hbase:attributeBase o "extend" X.env (eval o X.env)=eval o X.env:=by rfl)
  (hfew:((backTo cpos (starEach [a] X.env)).all (λx=>!x.1) && (backToKw cpos (keywordEach [] X.env)).all (λx=>x.1.isSome)
   && decide ([a].length+([]:List Keyword).length+(if ([]:List Keyword).isEmpty then 0 else 1)<30))=true:=by rfl)
  (hline:(apos.endLine == cpos.line)=true:=by rfl) (hs:starEach [a] X.env=(false,eval a X.env)::starEach [] X.env:=by rfl) (hplain:(backTo cpos (starEach [] X.env)).any (·.1)=false:=by rfl)
  (hsw:swapsWith (.Call (.Attribute o "extend" apos) [a] [] cpos) none pos.line X.env=pure false:=by rfl) :
  SS X (.Expr (.Call (.Attribute o "extend" apos) [a] [] cpos) pos) (zTW i fl):=
 ym (zBq (zGO zVf PySem.F.slot_list_extend PySem.F.type_list_extend zLa ho (yF ha qC hs) hbase hfew hline hs hplain) hsw) λE σ H=>by
  rintro ⟨G0,H0,G,ρ,o,st,ef,k⟩
  obtain ⟨xs,e1,ef⟩:=zUX.mp ef
  obtain ⟨ys,e2,ef⟩:=zUX.mp ef
  split at ef
  ·rename_i hl
   cases ef
   have e1':=zN4 e1
   obtain ⟨a1,vs,q1,q2,q3,q4⟩:=st.er.own i xs e1'
   refine ⟨_,q1,.inl ⟨rfl,vs,SqL.of q3⟩,G,ρ,ys,st.bs.gh,st.er,e2,λb us G' H' t h1 h2 h3 r=>?_⟩
   have st':=st.step t
   obtain ⟨a2,vs2,w1,w2,w3,w4⟩:=st'.er.own i xs e1'
   rw [q1] at w1;cases w1
   refine ⟨a1,b,vs2,us,rfl,rfl,w3,h3,?_,k σ G' _ (st'.mut e1' rfl rfl q1 (λzs z=>by cases z;exact ⟨_,rfl,w4.append r⟩) λ_ z=>by cases z)⟩
   rw [<- w4.length,<- r.length]
   exact zVF hl (by decide)
  ·cases ef
end
section
variable {prog:Program} {w:World} {A:Around} {E:VSt} {s:Shared}
theorem zFW {a:Addr} {vs:List Value} {ss:List Str} {n:Nat} {P:Fin->Shared->Prop} (ho:s.heap.get? a=some (seqObj "list" vs.toArray n)) (hS:StrsAre vs ss) (h64:vs.length<64)
  (h:∀ (out:Array Value) (ss':List Str),StrsAre out.toList ss'->ss'.Perm ss->sortedS ss'=true->P (.done (.ret .none)) { s with heap:=sortedHeap s.heap a vs out }) :
  wpAny (model prog w) A (Builtin.«list.sort» ⟨[.ref a],[]⟩) P E s:=by
 refine list_sort_treeK strKind_oneLt ho hS.keysOf (λv₁ v₂ rest e=>keyKind_strs (by rw [<- e];exact hS)) h64 λst' hp hs=>?_
 obtain ⟨ss',h1,h2,h3⟩:=sorted_out_str hS hp hs
 exact h _ ss' h1 h2 h3
theorem zIg {d:Addr} {kvs:List (Key×Value)} {ep:Nat} {Q:VSt} (lo:(d == sysModules)=false) (hh:A.handled=none) (hd:s.heap.DictAt (zy prog w) d kvs ep) (h64:kvs.length<64)
  (h:∀ (h':Heap) (tk:Nat) (vs:List Value),(∀ b o,s.heap.get? b=some o->h'.get? b=some o)->vs.length=kvs.length->(∀ (j:Nat) (v:Value),vs[j]?=some v->∃ k x,kvs[j]?=some (k,x)/\(zy prog w).is k v=true) ->
   wpAny (model prog w) A.in1.in1 (Builtin.«list.sort» ⟨[.ref h'.objs.size],[]⟩) (λfin s'=>∃ v,fin = .done (.ret v)/\Q (.ref h'.objs.size) s') E { s with heap:=h'.push (seqObj "list" vs.toArray 0),toks:=tk }) :
  wpAny (model prog w) A (call (.builtin "sorted") [.ref d]) Q E s:=by
 refine Calls.call_function_entry kind_sorted plain_sorted entry_sorted (args_sorted1 _) ?_
 unfold Builtin.«sorted»
 refine zUe (m:=checkCount "sorted" 1 1 _) (zUl ?_)
 refine zUe (PySem.W.kdu_collect (A:=A.in1) (PySem.W.kdl_dict lo) hh hd (by rw [zWE];omega) λh' tk acc hk hacc=>?_)
 have hl:acc.toList.length=kvs.length:=by rw [zWV];exact hacc.1
 refine zUe (wpAny_newList ?_ (by rw [hl,zWE];omega))
 have hg:=h h' tk acc.toList hk hl (λj v e=>hacc.2 j v (by rw [<- zWo];exact e))
 refine zUe (zV5 (wpAny_call_entry slot_list_sort ⟨_,zU4 _ rfl,rfl⟩ entry_list_sort (zVM hg (λfin s' x=>?_) λ_ _ e=>e) (args_list_sort _)))
 obtain ⟨v,rfl,q⟩:=x
 exact ⟨_,rfl,zUl ⟨_,rfl,q⟩⟩
end
noncomputable def zLA:Key->D
 |.inl i=>.int i
 |.inr x=>.str x
noncomputable def zOF (kvs:List (Key×D)):List D:=kvs.map λq=>zLA q.1
theorem zJe:∀ {xs:List V} {us:List Value},xs.length=us.length->(∀ (j:Nat) (u:Value),us[j]?=some u->∃ x,xs[j]?=some x/\yr x u)->yP xs us
 | [],[],_,_=>.nil
 |x::xs,u::us,hl,h=>by
  obtain ⟨y,e,r⟩:=h 0 u rfl
  simp at e;subst e
  exact .cons r (zJe (by simpa using hl) λj u' e=>by simpa using h (j+1) u' (by simpa using e))
 | [],_::_,hl,_=>by simp at hl
 |_::_,[],hl,_=>by simp at hl
theorem zQ4 {k:Key} {v:Value} (h:zIS k v=true):yr (kV k) v:=by
 rcases yU h with ⟨i,t,rfl,rfl⟩|⟨x,t,rfl,rfl⟩
 ·exact ⟨t,rfl⟩
 ·exact ⟨t,rfl⟩
noncomputable def toV:D->V
 |.int i=>.int i
 |.str x=>.str x
 |_=>.non
theorem zTX (k:Key):kV k=toV (zLA k):=by cases k<;>rfl
theorem zQ5 {α:Type} (kvs:List (Key×α)):(kvs.map λq=>kV q.1)=(kvs.map λq=>zLA q.1).map toV:=by
 rw [zVa]
 exact zVc λq _=>zTX q.1
theorem zPp {α:Type}:∀ {kvs:List (α×V)} {vs:List (α×Value)} {j:Nat} {k:α} {x:Value},KV kvs vs->vs[j]?=some (k,x)->∃ y,kvs[j]?=some (k,y)
 |_,_,j,k,x,.nil,e=>by simp at e
 |(k0,y0)::_,(k1,u0)::_,0,k,x,.cons h t,e=>by
  simp at e
  have h1:k0=k1:=h.1
  exact ⟨y0,by simp [h1,e.1]⟩
 |_::_,_::_,j+1,k,x,.cons h t,e=>by simpa using zPp (j:=j) t (by simpa using e)
section
variable {X:Cx}
theorem zCz (hcalm:X.calm=true):zAt X (.builtin "sorted") (λxs H Q=>∃ a kvs ys,xs = [.ref a]/\H a=some (.dK kvs)/\zFV (.lst (kvs.map λq=>zLA q.1))=some ys/\∀ l us,H l=none->(∀ K G,Reps K G ys us)->Q (.ref l) (upd H l (.lst us))):=by
 intro pins s σ H xs us Q I r h
 obtain ⟨a,kvs,ys,rfl,hH,e,k⟩:=h
 obtain ⟨u,rfl,ru⟩:=zDR r
 cases ru
 obtain ⟨hz,lo,vs,kv,dd⟩:=zQg I.hok hH
 obtain ⟨ep,da⟩:=dd.dictAt
 simp only [zFV,zPn,zUb] at e
 split at e
 ·rename_i hl
  rw [zUi] at hl
  have l1:vs.length=kvs.length:=kv.length.symm
  refine zIg (kvs:=vs) lo (I.ok.hd hcalm) da (by omega) λh' tk its keep hlen hits=>?_
  have I1:Inv X pins σ H { s with heap:=h',toks:=tk }:=I.kept (t':=tk) keep
  have hn:H h'.objs.size=none:=I1.hok.fresh (zUn _)
  have vv:yP (kvs.map λq=>kV q.1) its:=zJe (by rw [zUi];omega) λj u eu=>by
   obtain ⟨kk,xx,e1,e2⟩:=hits j u eu
   obtain ⟨y,e3⟩:=zPp kv e1
   refine ⟨kV kk,by rw [zVK,e3];rfl,zQ4 ?_⟩
   exact e2
  rw [zQ5] at vv
  have fin:∀ {out:Array Value} {vs':List V},yP vs' out.toList->(∀ K G,Reps K G ys vs')->vs'.length<=sizeLine->EP X pins σ Q (.ref h'.objs.size) { s with heap:=sortedHeap (h'.push (seqObj "list" its.toArray 0)) h'.objs.size its out,toks:=tk }:=λ{out vs'} h1 h2 h3=>by
   obtain ⟨e',he⟩:=sortedHeap_at (h:=h'.push (seqObj "list" its.toArray 0)) (a:=h'.objs.size) (vs:=its) (n:=0) (out:=out) (zU4 _ rfl)
   refine ⟨.ref h'.objs.size,upd H h'.objs.size (.lst vs'),I1.laid (t':=tk) (λb ob eb=>?_) (zUn _) ⟨h3,out.toList,e',h1,?_⟩,rfl,k _ _ hn h2⟩
   ·have blt:=zUo eb
    rw [sortedHeap_old (zU0 blt) (zUm blt (by rw [zWn];exact zWk _))]
    exact zUk _ eb
   ·rw [he]
  split at e
  ·rename_i is hi
   cases e
   have e1:=zEh hi
   rw [e1,zVa] at vv
   refine zVM (list_sort_tree (P:=λfin s'=>∃ v,fin = .done (.ret v)/\EP X pins σ Q (.ref h'.objs.size) s') (n:=0) (zU4 _ rfl) (zFi (ns:=is) vv) (by omega) λout ns' a1 a2 a3=>⟨_,rfl,?_⟩) (λ_ _ x=>x) λ_ _ x=>x
   have e5:=zCt _ _ (a2.trans (zA8 is).symm) a3 (zGY is)
   subst e5
   refine fin (zDY a1) (λK G=>Reps.ints _) ?_
   have:=(zA8 is).length_eq
   have:=zVX List.length e1
   simp only [zUi] at this ⊢
   exact zAj (by omega)
  ·rename_i hi
   obtain ⟨ss,e2,rfl⟩:=zUZ.mp e
   have e1:=zCv e2
   rw [e1,zVa] at vv
   refine zVM (zFW (P:=λfin s'=>∃ v,fin = .done (.ret v)/\EP X pins σ Q (.ref h'.objs.size) s') (n:=0) (zU4 _ rfl) (zCD (ss:=ss) vv) (by omega) λout ns' a1 a2 a3=>⟨_,rfl,?_⟩) (λ_ _ x=>x) λ_ _ x=>x
   have e5:=zCu _ _ (a2.trans (zA9 ss).symm) (zFo a3) (zGZ ss)
   subst e5
   refine fin (zDX a1) (λK G=>Reps.strs _) ?_
   have:=(zA9 ss).length_eq
   have:=zVX List.length e1
   simp only [zUi] at this ⊢
   exact zAj (by omega)
 ·cases e
variable {e:Expr} {x:Str} {p1 pos:Pos}
noncomputable def zQ6 (i:Nat):ROl:=λρ=>(gM ρ i).bind λkvs=>zFV (.lst (zOF kvs))
theorem zOG (i:Nat) (hcalm:X.calm=true) (hg:Gl X "sorted") (hm:X.mg "sorted" = none) (ho:PE X e (zBi i))
  (hs:starEach [e] X.env=(false,eval e X.env)::starEach [] X.env:=by rfl) (hpl:(backTo pos (starEach [] X.env)).any (·.1)=false:=by rfl):SF X (.Call (.Name "sorted" p1) [e] [] pos) (zQ6 i):=
 zA7 (zCl (zCz hcalm) hg hm zEG (yF ho qC hs) (by decide) (by decide) hs hpl) λσ H Q=>by
  rintro ⟨G,ρ,ys,s,er,ef,k⟩
  obtain ⟨kvs,e1,e2⟩:=zUX.mp ef
  obtain ⟨a,ws,q1,q2,q3,q4⟩:=er.dic i kvs (zQ2 e1)
  refine ⟨_,q1,a,ws,ys,rfl,q3,?_,λl us hl r=>?_⟩
  ·rw [<- e2]
   have z:(ws.map λq=>zLA q.1)=zOF kvs:=by
    have:=zVX (List.map zLA) q4.1
    rw [zVa,zVa] at this
    exact this.symm
   rw [z]
  ·exact k l us G _ (zd.newH s hl) hl (s.free hl) zM (r _ _)
end
noncomputable def tyD:D->String
 |.non=>"NoneType" | .bl _=>"bool" | .int _=>"int" | .str _=>"str" | .tup _=>"tuple" | .lst _=>"list"
noncomputable def zTY (T:String) (d:D):Bool:=tyD d == T || (tyD d == "bool" && T == "int")
noncomputable def zTZ (T:String) (d:D):Option D:=some (.bl (zTY T d))
noncomputable def isiT (T:String):Bool:=T == "tuple" || T == "int" || T == "bool" || T == "str" || T == "list"
theorem zTa {K:Fg} {T:String} (hT:isiT T=true) (d:D):PySem.W.kitOne K (.type (tyD d)) (.type T)=some (zTY T d):=by
 have hT':T = "tuple"\/T = "int"\/T = "bool"\/T = "str"\/T = "list":=by simpa [isiT,or_assoc] using hT
 rcases hT' with rfl|rfl|rfl|rfl|rfl<;>cases d<;>first|rfl|kernel_rfl
section
variable {X:Cx} {a:Expr} {f:ROd} {p1 p2 pos:Pos}
theorem zOH {T:String} (hT:isiT T=true):zAt X (.builtin "isinstance") (λxs H Q=>∃ G d x,xs = [x,.ty T]/\zi G H/\zCC X.K G H d x/\Q (.bl (zTY T d)) H):=by
 intro pins s σ H xs us Q I r h
 obtain ⟨G,d,x,rfl,sm,rx,q⟩:=h
 obtain ⟨u,u2,rfl,r1,r2⟩:=zSv r
 cases (show u2=Value.type T from r2)
 have e:=zTa (K:=X.K) hT d
 have fin:∀ tk,EP X pins σ Q (.bool (zTY T d)) { s with toks:=tk }:=λtk=>⟨.bl _,H,I.tok tk,rfl,q⟩
 cases d with
 |non=>have:=rx.non;subst this;cases (show u=Value.none from r1);exact zWL PySem.W.kitx_none I.kIn True.intro e (λz=>nomatch z) fin
 |bl b=>have:=rx.bl;subst this;cases (show u=Value.bool b from r1);exact zWL PySem.W.kitx_bool I.kIn True.intro e (λz=>nomatch z) fin
 |int i=>have:=rx.int;subst this;obtain ⟨t,q⟩:=(show ∃ t,u=Value.int i t from r1);cases q;exact zWL PySem.W.kitx_int I.kIn True.intro e (λz=>nomatch z) fin
 |str i=>have:=rx.str;subst this;obtain ⟨t,q⟩:=(show ∃ t,u=Value.str i t from r1);cases q;exact zWL PySem.W.kitx_str I.kIn True.intro e (λz=>nomatch z) fin
 |tup ys=>
  obtain ⟨b,vs,rfl,sq,_⟩:=rx.tup sm
  cases (show u=Value.ref b from r1)
  obtain ⟨its,_,⟨o,h1,h2,_⟩,_⟩:=I.tuple sq
  exact zWL PySem.W.kitx_tuple I.kIn ⟨o,h1,h2⟩ e (λz=>nomatch z) fin
 |lst ys=>
  obtain ⟨b,vs,rfl,sq,_⟩:=rx.list sm
  cases (show u=Value.ref b from r1)
  obtain ⟨its,_,⟨o,n,h1,h2,_⟩,_⟩:=I.list sq
  exact zWL PySem.W.kitx_list I.kIn ⟨o,h1,h2⟩ e (λz=>nomatch z) fin
theorem zPq {T:String} {y:Str} (hT:isiT T=true) (hg:Gl X "isinstance") (hm:X.mg "isinstance" = none) (hgT:Gl X y) (hmT:X.mg y=none) (hbT:bootBuiltins y=some (.type T)) (ha:SR X a f)
  (hnT:y ≠ "__name__":=by decide) (hdT:(y == ("__debug__" : Str))=false:=by decide)
  (hs:starEach [a,.Name y p2] X.env=(false,eval a X.env)::starEach [.Name y p2] X.env:=by rfl) (hs2:starEach [.Name y p2] X.env=(false,eval (.Name y p2) X.env)::starEach [] X.env:=by rfl)
  (hpl:(backTo pos (starEach [.Name y p2] X.env)).any (·.1)=false:=by rfl):SE X (.Call (.Name "isinstance" p1) [a,.Name y p2] [] pos) (b1 f (zTZ T)):=
 zA7 (zCl (zOH hT) hg hm zHj (yF ha (yF (zQG (v:=.ty T) hgT hmT hbT rfl hnT hdT) qC hs2) hs) (by decide) (by decide) hs hpl) λσ H Q=>by
  rintro ⟨G,ρ,d,s,er,ef,k⟩
  obtain ⟨d1,e1,ef⟩:=zUX.mp ef
  cases ef
  exact ⟨G,ρ,d1,s,er,e1,λv1 G1 H1 t1 r1=>⟨G1,d1,v1,rfl,t1.s,r1,k _ G1 H1 t1 (yQ.mpr rfl)⟩⟩
end
noncomputable def zEk:List D->Option (List Bool)
 | []=>some []
 |.bl b::r=>(zEk r).map (b :: ·)
 |_=>none
noncomputable def allO:D->Option D
 |.lst xs=>(zEk xs).map λbs=>.bl (bs.all id)
 |_=>none
noncomputable def anyO:D->Option D
 |.lst xs=>(zEk xs).map λbs=>.bl (bs.any id)
 |_=>none
theorem zFu:∀ {xs:List D} {bs:List Bool},zEk xs=some bs->xs=bs.map .bl
 | [],bs,h=>by cases h;rfl
 |d::r,bs,h=>by
  cases d with
  |bl b=>
   obtain ⟨js,e,rfl⟩:=zUZ.mp h
   rw [zUc,<- zFu e]
  |_=>cases h
theorem zFv {K:Fg} {G:Hp}:∀ {bs:List Bool} {vs:List V},Reps K G (bs.map .bl) vs->vs=bs.map V.bl
 | [],vs,h=>yR.mp h
 |b::bs,vs,h=>by
  obtain ⟨v,r,rfl,h1,h2⟩:=za.mp h
  rw [yQ.mp h1,zFv h2];rfl
theorem zFw:∀ {bs:List Bool} {us:List Value},yP (bs.map V.bl) us->us=bs.map Value.bool
 | [],us,r=>by cases r;rfl
 |b::bs,us,r=>by
  cases r with
  |cons r1 r2=>cases (show _=Value.bool b from r1);rw [zFw r2];rfl
theorem zL8 (bs:List Bool):(List.range bs.length).all (λi=>bs.getD i false)=bs.all id:=by
 rw [zW3]
 simp only [zWU,zVy]
 constructor
 ·intro h b hb
  obtain ⟨i,hi,rfl⟩:=zV8.mp hb
  simpa [List.getD,hi] using h i hi
 ·intro h i hi
  have:=h bs[i] (zWF hi)
  simpa [List.getD,hi] using this
theorem zL9 (bs:List Bool):(List.range bs.length).any (λi=>bs.getD i false)=bs.any id:=by
 rw [zW3]
 simp only [zWw,zVy]
 constructor
 ·rintro ⟨i,hi,h⟩
  exact ⟨bs[i],zWF hi,by simpa [List.getD,hi] using h⟩
 ·rintro ⟨b,hb,h⟩
  obtain ⟨i,hi,rfl⟩:=zV8.mp hb
  exact ⟨i,hi,by simpa [List.getD,hi] using h⟩
section
variable {X:Cx}
theorem zFx {pins:PNt} {σ:L2.St} {H G:Hp} {s:Shared} {xs:List D} {bs:List Bool} {v:V} {u:Value} {A:Around} {E:VSt} {Q:Bool->Value->Shared->Prop} (hcalm:A.handled=none) (I:Inv X pins σ H s) (sm:zi G H) (r1:zCC X.K G H (.lst xs) v) (ru:yr v u) (e:zEk xs=some bs)
  (R:List Bool->Bool) (tr:Nat->Bool) (htr:tr=λi=>bs.getD i false)
  (h:∀ (I0:Addr) (fp wr:List Addr) (n:Nat) (P:Nat->Value->Prop) (St:Nat->Heap->Prop) (h2:Heap),n=bs.length->Walks X.prog X.w A I0 fp wr n P St->St 0 h2->TruthOf X.prog X.w A P tr->(∀ h' tk,(∀ b o,b∉wr->h2.get? b=some o->h'.get? b=some o)->Inv X pins σ H { s with heap:=h',toks:=tk })->Q true (.ref I0) { s with heap:=h2 }) :
  wpAny (model X.prog X.w) A (pyIter u) (Q true) E s:=by
 have e1:=zFu e
 subst e1
 obtain ⟨a,vs,rfl,q,w⟩:=r1.list sm
 cases ru
 obtain ⟨its,vv,p,hz⟩:=I.list q
 have hv:=zFv w
 subst hv
 have hu:=zFw vv
 subst hu
 have hl:=p.isList
 have hax:a<s.heap.objs.size:=by obtain ⟨_,e,_⟩:=hl;exact zUo e
 refine wpAny_pyIter_list hl ?_
 refine h s.heap.objs.size _ _ _ _ _ _ ?_ (Walks.list hcalm s.heap.objs.size a (zU0 hax) (bs.map Value.bool).toArray) ⟨⟨_,zU4 _ rfl,rfl,rfl⟩,hl.push _⟩ ?_ ?_
 ·simp
 ·intro i v s' Q' E' hP hQ
  have:∃ b,bs[i]?=some b/\v = .bool b:=by
   have hP':(bs.map Value.bool)[i]?=some v:=by simpa only [List.getElem?_toArray] using hP
   rw [zVK] at hP'
   obtain ⟨b,h1,h2⟩:=zUZ.mp hP'
   exact ⟨b,h1,h2.symm⟩
  obtain ⟨b,hb,rfl⟩:=this
  rw [htr] at hQ
  simp only [List.getD,hb,Option.getD_some] at hQ
  exact zVz hQ
 ·intro h' tk hk
  refine I.kept (t':=tk) λb o eb=>hk b o ?_ (zUk _ eb)
  intro hm
  have:=zUo eb
  rw [zUf.mp hm] at this
  exact zVp _ this
theorem zMA (hcalm:X.calm=true):zAt X (.builtin "all") (cR X.K allO):=by
 intro pins s σ H xs us Q I r h
 obtain ⟨G,d1,d,x,rfl,sm,r1,e,k⟩:=h
 obtain ⟨u,rfl,ru⟩:=zDR r
 cases d1 with
 |lst zs=>
  obtain ⟨bs,e1,rfl⟩:=zUZ.mp e
  refine call_all_walk ?_
  refine zFx (Q:=λ_=>_) (A:=X.A.in1) (I.ok.hd hcalm) I sm r1 ru e1 (λ_=>true) _ rfl λI0 fp wr n P St h2 hn W st ht hk=>?_
  refine ⟨I0,fp,wr,n,P,St,_,rfl,W,st,ht,λh' tk hh=>?_⟩
  subst hn
  rw [zL8]
  exact ⟨.bl _,H,hk h' tk hh,rfl,k _ G H (zd.refl sm) (yQ.mpr rfl)⟩
 |_=>cases e
theorem zMB (hcalm:X.calm=true):zAt X (.builtin "any") (cR X.K anyO):=by
 intro pins s σ H xs us Q I r h
 obtain ⟨G,d1,d,x,rfl,sm,r1,e,k⟩:=h
 obtain ⟨u,rfl,ru⟩:=zDR r
 cases d1 with
 |lst zs=>
  obtain ⟨bs,e1,rfl⟩:=zUZ.mp e
  refine call_any_walk ?_
  refine zFx (Q:=λ_=>_) (A:=X.A.in1) (I.ok.hd hcalm) I sm r1 ru e1 (λ_=>true) _ rfl λI0 fp wr n P St h2 hn W st ht hk=>?_
  refine ⟨I0,fp,wr,n,P,St,_,rfl,W,st,ht,λh' tk hh=>?_⟩
  subst hn
  rw [zL9]
  exact ⟨.bl _,H,hk h' tk hh,rfl,k _ G H (zd.refl sm) (yQ.mpr rfl)⟩
 |_=>cases e
variable {x:Str} {pos:Pos}
end
section
variable {X:Cx} {tg e:Expr} {f:ROd}
end
section
variable {X:Cx}
end
theorem HOk.on {P:Program} {w:World} {H:Hp} {h h':Heap} (x:L2.HOk P w H h) (k:∀ b u o,H b=some o->h.get? b=some u->h'.get? b=some u):L2.HOk P w H h':=λa o e=>
 (x a o e).stay (λb u hb q=>by
  rcases hb with rfl|hb
  ·exact k _ u _ e q
  ·exact k b u _ hb q) (λ_ q=>q) λ_ _ q=>q
theorem zEl {P:Program} {w:World} {H:Hp} {h:Heap} {a:Addr} {o:HO} (x:zAC P w H h a o):∃ u,h.get? a=some u:=by
 cases o with
 |lst xs=>obtain ⟨_,_,_,_,e⟩:=x;exact ⟨_,e⟩
 |tup xs=>obtain ⟨_,_,_,ob,e,_⟩:=x;exact ⟨_,e⟩
 |dK kvs=>obtain ⟨_,_,_,_,ob,_,_,e,_⟩:=x;exact ⟨_,e⟩
 |dT kvs=>obtain ⟨_,_,_,_,ob,_,_,e,_⟩:=x;exact ⟨_,e⟩
 |set S n=>obtain ⟨ob,_,_,_,e,_⟩:=x;exact ⟨_,e⟩
 |ins C dx fs=>obtain ⟨_,_,_,e,_⟩:=x;exact ⟨_,e⟩
 |own y=>exact x
 |xd fs=>obtain ⟨_,⟨_,_,_,e,_⟩,_⟩:=x;exact ⟨_,e⟩
 |rng lo hi=>obtain ⟨_,_,_,e⟩:=x;exact ⟨_,e⟩
 |frz ob u=>exact ⟨_,x.1⟩
 |tbl ps=>exact ⟨_,(show h.get? a=some { cls:=.none,data:=.fields ps } from x)⟩
 |met f y=>exact ⟨_,(show h.get? a=some (PySem.W.methodObj (.ref f) (.ref y)) from x)⟩
 |ext φ=>exact x.2.1
def Fly (l:List Env) (x T:Addr) (cls:Value) (h:Heap):Prop:=∃ a0,Heap.FlyingW (PySem.W.hideAll h (x::T::frs l)) l x cls a0 h
theorem zTb {B h:Heap} {l:List Env} {x:Addr} {cls a0:Value} (f:Heap.FlyingW B l x cls a0 h):∃ T,Fly l x T cls h/\B.get? T=none/\T≠x/\(∃ o ts,h.get? T=some o/\o.data = .fields ts):=by
 obtain ⟨f1,f2,f3,oe,vs,T,oT,ts,g1,g2,g3,g4,g5,g6,g7,g8,g9⟩:=f
 refine ⟨T,⟨a0,λb o e=>zWe _ e,zVx _ (by simp),?_,oe,vs,T,oT,ts,g1,g2,g3,g4,zVx _ (by simp),g6,g7,g8,g9⟩,g5,g6,oT,ts,g7,g8⟩
 exact zWh f3 λenv he a ha=>zUY _ (zUY _ (zU6.mpr ⟨env,he,ha⟩))
noncomputable def CXE (P:Program) (w:World):CXT:=λouter H s E e s'=>∃ x T C H',e = .ref x/\s'.os=s.os/\AllBare s'.gens/\L2.Un (frs outer) [] H H' s.heap s'.heap/\L2.HOk P w H' s'.heap/\Fly outer x T (.ref C) s'.heap /\
 s.heap.get? x=none/\s.heap.get? T=none/\H' x=none/\H' T=none/\E (.ref C) none H'
section
variable {P:Program} {w:World} {K:Fg} {mg:MGt} {base:Heap} {N:List Str} {qual:Str} {scope:Scope} {f:Addr} {cd:Value} {A:Around} {outer:List Env} {s₀:Shared} {H₀:Hp} {E:XK}
abbrev cxE (P:Program) (w:World) (K:Fg) (mg:MGt) (base:Heap) (N:List Str) (qual:Str) (scope:Scope) (f:Addr) (cd:Value) (A:Around) (outer:List Env) (s₀:Shared) (H₀:Hp) (E:XK):Cx:=zGM (CXE P w) P w K mg base N qual scope f cd A outer s₀ H₀ E
theorem zMC {pins:PNt} {σ:L2.St} {H:Hp} {s:Shared} {bad:List Addr} {x C:Addr} {a0:Value} {h':Heap} (I:Inv (cxE P w K mg base N qual scope f cd A outer s₀ H₀ E) pins σ H s)
  (hb:∀ b∈bad,b∈frs (envOfC qual scope s₀.heap.objs.size f cd::outer)\/(s₀.heap.get? b=none/\H b=none))
  (x1:Heap.FlyingW (PySem.W.hideAll s.heap bad) outer x (.ref C) a0 h') (x2:∀ b∈frs outer,∀ o,s.heap.get? b=some o->(∀ vs,o.data≠.fields vs)->∃ sl,h'.get? b=some { o with slots:=sl }) (hx0:s₀.heap.get? x=none) (hHx:H x=none) (hE:E (.ref C) none H) :
  CXE P w outer H₀ s₀ E (.ref x) { s with heap:=h' }:=by
 obtain ⟨T,fl,t1,t2,oT,ts,t3,t4⟩:=zTb x1
 have hL:s₀.heap.get? s₀.heap.objs.size=none:=by
  cases q:s₀.heap.get? s₀.heap.objs.size with
  |none=>rfl
  |some o=>exact absurd (zUo q) (zVp _)
 -- a thing of the entry's heap that is bad is a caller's frame
 have badf:∀ b o,s₀.heap.get? b=some o->b∈bad->b∈frs outer:=λb o e m=>by
  rcases hb b m with q|⟨q,_⟩
  ·rcases zU6.mp q with ⟨env,he,hf⟩
   rcases zUg.mp he with rfl|he
   ·have z:s₀.heap.objs.size=b:=zVY hf
    rw [<- z,hL] at e;cases e
   ·exact zU6.mpr ⟨env,he,hf⟩
  ·rw [q] at e;cases e
 have stay:∀ b o,s.heap.get? b=some o->b∉bad->h'.get? b=some o:=λb o e nb=>x1.1 b o (zV1 _ e nb)
 have frd:∀ b,b∈frs outer->∃ o,s.heap.get? b=some o/\∀ vs,o.data≠.fields vs:=λb m=>by
  obtain ⟨_,o,ho,hd⟩:=I.stack.mem (zU6.mpr (by
   obtain ⟨env,he,hf⟩:=zU6.mp m
   exact ⟨env,zUY _ he,hf⟩))
  exact ⟨o,ho,hd⟩
 have trk:∀ b o,H b=some o->b∉bad:=λb o e m=>by
  rcases hb b m with q|⟨_,q⟩
  ·have:=I.stkFree b q
   rw [this] at e;cases e
  ·rw [q] at e;cases e
 have hT0:s₀.heap.get? T=none:=by
  cases q:s₀.heap.get? T with
  |none=>rfl
  |some o=>
   exfalso
   obtain ⟨o',q'⟩:=I.base.there T o q (by show T∉([]:List Addr);simp)
   by_cases m:T∈bad
   ·obtain ⟨_,ob,g1,g2⟩:=x1.2.2.1.mem (badf T o q m)
    rw [t3] at g1;cases g1
    exact g2 _ t4
   ·rw [zV1 _ q' m] at t1;cases t1
 have hHT:H T=none:=by
  cases q:H T with
  |none=>rfl
  |some o=>
   exfalso
   obtain ⟨u,hu⟩:=zEl (I.hok T o q)
   rw [zV1 _ hu (trk T o q)] at t1;cases t1
 refine ⟨x,T,C,H,rfl,I.os,I.bare,⟨λb o e n nf _=>?_,λb o e n m _=>?_,λb o e n nx=>I.base.free b o e n nx,λb o e _=>?_,I.base.tups,I.base.frzs,I.base.tbls⟩,?_,fl,hx0,hT0,hHx,hHT,hE⟩
 ·exact stay b o (I.base.keep b o e n nf (by show b∉([]:List Addr);simp)) λm=>nf (badf b o e m)
 ·obtain ⟨sl,e1⟩:=I.base.slot b o e n m (by show b∉([]:List Addr);simp)
  obtain ⟨ob,e2,hd⟩:=frd b m
  rw [e1] at e2;cases e2
  obtain ⟨sl',e3⟩:=x2 b m _ e1 hd
  exact ⟨sl',e3⟩
 ·obtain ⟨o',e1⟩:=I.base.there b o e (by show b∉([]:List Addr);simp)
  by_cases m:b∈bad
  ·obtain ⟨ob,e2,hd⟩:=frd b (badf b o e m)
   rw [e1] at e2;cases e2
   obtain ⟨sl',e3⟩:=x2 b (badf b o e m) _ e1 hd
   exact ⟨_,e3⟩
  ·exact ⟨o',stay b o' e1 m⟩
 ·exact HOk.on I.hok λb u o e q=>stay b u q (trk b o e)
theorem zPr {pins:PNt} {σ:L2.St} {H:Hp} {s:Shared} {bad:List Addr} {x C:Addr} {a0:Value} {h':Heap} (I:Inv (cxE P w K mg base N qual scope f cd A outer s₀ H₀ E) pins σ H s)
  (hb:∀ b∈bad,b∈frs (envOfC qual scope s₀.heap.objs.size f cd::outer)\/(s₀.heap.get? b=none/\H b=none))
  (x1:Heap.FlyingW (PySem.W.hideAll s.heap bad) outer x (.ref C) a0 h') (x2:s.heap.UpToSlots h') (hx0:s₀.heap.get? x=none) (hHx:H x=none) (hE:E (.ref C) none H) :
  CXE P w outer H₀ s₀ E (.ref x) { s with heap:=h' }:=
 zMC I hb x1 (λb _=>x2 b) hx0 hHx hE
theorem zMD:zBb (CXE P w) (cxE P w K mg base N qual scope f cd A outer s₀ H₀ E) E:=by
 intro pins σ H s e s' I h
 obtain ⟨x,T,C,H',rfl,os,bare,un,hok,⟨a0,fl⟩,nx,nT,hx,hT,hE⟩:=h
 have J:Inv (cxE P w K mg base N qual scope f cd A outer s₀ H₀ E) pins σ H' s':=I.call' os un hok bare λb m=>absurd m (by simp)
 have old:∀ b,s.heap.get? b=none->s₀.heap.get? b=none:=λb n=>by
  cases q:s₀.heap.get? b with
  |none=>rfl
  |some o=>
   obtain ⟨o',q'⟩:=I.base.there b o q (by show b∉([]:List Addr);simp)
   rw [n] at q';cases q'
 show wpAny (model P w) (A.deeper (envOfC qual scope s₀.heap.objs.size f cd)) (leaving (envOfC qual scope s₀.heap.objs.size f cd) (.ref x)) _ _ s'
 refine wpAny_leaves_onW (J.ok.frames) (L:=s₀.heap.objs.size) rfl fl λh' x1 x2=>?_
 refine zPr J (λb m=>?_) x1 x2 (old x nx) hx hE
 rcases zUg.mp m with rfl|m
 ·exact .inr ⟨old _ nx,hx⟩
 rcases zUg.mp m with rfl|m
 ·exact .inr ⟨old _ nT,hT⟩
 ·exact .inl m
theorem zQ7 {pins:PNt} {σ:L2.St} {H:Hp} {s:Shared} {x C:Addr} {h':Heap} {args:List Value} (I:Inv (cxE P w K mg base N qual scope f cd A outer s₀ H₀ E) pins σ H s)
  (m:Heap.MadeExcOf s.heap h' x (.ref C) args) (hE:E (.ref C) none H):(cxE P w K mg base N qual scope f cd A outer s₀ H₀ E).xe (.ref x) { s with heap:=h' }:=by
 show wpAny (model P w) (A.deeper (envOfC qual scope s₀.heap.objs.size f cd)) (leaving (envOfC qual scope s₀.heap.objs.size f cd) (.ref x)) _ _ _
 have hin:∀ env∈(envOfC qual scope s₀.heap.objs.size f cd::outer),∀ a,env.frame=some a->a∈frs (envOfC qual scope s₀.heap.objs.size f cd::outer):=λenv he a ha=>zU6.mpr ⟨env,he,ha⟩
 have st:s.heap.FunFrames (PySem.W.hideAll s.heap (frs (envOfC qual scope s₀.heap.objs.size f cd::outer))) (envOfC qual scope s₀.heap.objs.size f cd::outer):=zWh I.stack hin
 refine wpAny_leaves_madeW (s:={ s with heap:=h' }) (I.ok.frames) (L:=s₀.heap.objs.size) rfl (λb o e=>zWe _ e) st m λh'' t x1 _ _ x2=>?_
 have nx0:s₀.heap.get? x=none:=by
  cases q:s₀.heap.get? x with
  |none=>rfl
  |some o=>
   obtain ⟨o',q'⟩:=I.base.there x o q (by show x∉([]:List Addr);simp)
   rw [m.new] at q';cases q'
 have hHx:H x=none:=by
  cases q:H x with
  |none=>rfl
  |some o=>
   obtain ⟨u,hu⟩:=zEl (I.hok x o q)
   rw [m.new] at hu;cases hu
 exact zPr (s:=s) I (λb mb=>.inl mb) x1 ((Heap.UpToSlots.of_keeps m.keeps).trans x2) nx0 hHx hE
end
abbrev bmV:List Value:=[.type "ValueError",.type "Exception",.type "BaseException",.type "object"]
def zQ8 (K:Fg) (C:Addr):Prop:=PySem.W.excIn K C bmV "ValueError.__new__" = true
theorem zME {K:Fg} {C:Addr} (q:zQ8 K C):∃ bm N nm qn bs hdct sn sub ab col dd k0 k1 k2 k3 k5 oN,
  K.lookup C=some (excClassObj nm qn C N bs bm hdct sn sub ab col dd k0 k1 k2 k3 k5 "ValueError.__new__")/\K.lookup N=some oN/\(∀ h,K.In h->h.isNs N=true/\h.nsMap N "__init__" = none/\OwnTail h bmV bm):=by
 have q':=q
 unfold zQ8 PySem.W.excIn at q'
 split at q'
 ·next dd cd sl ho=>
  split at q'
  ·next C' bm k0 k1 k2 k3 n k5 hm hs=>
   rw [zVR,zVR,zVR,zVR,zVR] at q'
   obtain ⟨⟨⟨⟨⟨e1,e2⟩,e3⟩,e4⟩,e5⟩,e6⟩:=q'
   have e1':C'=C:=by simpa using e1
   have e2':n = "ValueError.__new__":=by simpa using e2
   have e6':PySem.W.nsIn K cd.ns "__init__" = some none:=by simpa using e6
   subst e1' e2'
   cases cd with
   |mk nm bs mro ns qn hd sn sub ab col del=>
    simp only at hm e3 e5 e6'
    have e3':del=false:=by simpa using e3
    subst hm e3'
    cases sl with
    |mk l=>
     simp only at hs
     subst hs
     have e5':=e5
     unfold PySem.W.nsOkIn at e5'
     split at e5'
     ·next hN=>exact ⟨bm,ns,nm,qn,bs,hd,sn,sub,ab,col,dd,k0,k1,k2,k3,k5,_,ho,hN,λh X=>⟨PySem.W.isNs_of_in X e5,PySem.W.nsMap_none_of_in X e5 e6',PySem.W.tail_of_in X e4⟩⟩
     ·cases e5'
  ·cases q'
 ·cases q'
section
variable {P:Program} {w:World} {K:Fg} {mg:MGt} {base:Heap} {N:List Str} {qual:Str} {scope:Scope} {f:Addr} {cd:Value} {A:Around} {outer:List Env} {s₀:Shared} {H₀:Hp} {E:XK}
theorem zOI {C:Addr} {x:Str} {e:Expr} {t:TA} {np cpos pos:Pos} (hC:zQ8 K C) (hg:Gl (cxE P w K mg base N qual scope f cd A outer s₀ H₀ E) x) (hm:mg x=some (.ref C)) (ha:PA (cxE P w K mg base N qual scope f cd A outer s₀ H₀ E) [e] t) (hd:(x == ("__debug__" : Str))=false:=by decide)
  (he:starEach [e] (cxE P w K mg base N qual scope f cd A outer s₀ H₀ E).env=(false,eval e (cxE P w K mg base N qual scope f cd A outer s₀ H₀ E).env)::starEach [] (cxE P w K mg base N qual scope f cd A outer s₀ H₀ E).env:=by rfl)
  (hpl:(backTo cpos (starEach [] (cxE P w K mg base N qual scope f cd A outer s₀ H₀ E).env)).any (·.1)=false:=by rfl) :
  PS (cxE P w K mg base N qual scope f cd A outer s₀ H₀ E) (.Raise (some (.Call (.Name x np) [e] [] cpos)) none pos) (λ_ σ H=>t σ H λvs H1=>vs.length<=sizeLine/\E (.ref C) none H1):=by
 intro pins s σ H D I h
 obtain ⟨bm,Nn,nm,qn,bs,hdct,sn,sub,ab,col,dd,k0,k1,k2,k3,k5,oN,o1,oN1,oAll⟩:=zME hC
 obtain ⟨o2,o3,o4⟩:=oAll _ I.kIn
 have hbs:bm.contains (.type "BaseException")=true:=o4.hasType (by decide)
 have e1:=PySem.F.excBase_ValueError
 refine wpAny_Raise_call_subU (C:=C) (nm:=nm) (q:=qn) (N:=Nn) (bs:=bs) (bm:=bm) (hdct:=hdct) (sn:=sn) (sub:=sub) (ab:=ab) (col:=col) (dd:=dd) (k0:=k0) (k1:=k1) (k2:=k2) (k3:=k3) (k5:=k5) (mN:=s.heap.nsMap Nn) e1 (by decide) e1 hbs (I.ok.hd rfl) (by rw [he];show (false || (backTo cpos (starEach [] _)).any (·.1))=false;rw [hpl];rfl) o3 ?_
 refine zGJ I hg hm ⟨rfl,?_⟩ hd
 have hA:=ha cpos pins s σ H _ I h
 rw [he] at hA ⊢
 refine Calls.evalArgs_plain ?_
 refine thn hA λus s2 zz=>?_
 obtain ⟨vs,H1,I1,rv,hl,hE⟩:=zz
 exact ⟨rfl,by show us.length<=_;rw [<- rv.length];exact hl,I1.kIn _ _ o1,(Heap.Ns.of_isNs o2).at' (λo e=>by rw [I.kIn _ _ oN1] at e;cases e;exact I1.kIn _ _ oN1),(oAll _ I1.kIn).2.2,λh' x m=>zQ7 I1 m hE⟩
end
inductive zAy where
 |o (x:Out)|ex (c:Nat)
noncomputable def PostX (K:Fg) (κ:Nat->Addr) (W:XK) (G0 H0:Hp) (E:zLI):zAy->Prop
 |.o x=>zSP K G0 H0 E x
 |.ex c=>∀ G H,Bs G0 H0 G H->W (.ref (κ c)) none H
noncomputable def tSx (K:Fg) (κ:Nat->Addr) (W:XK) (F:Rho->Option zAy):TS:=λE σ H=>∃ G0 H0 G ρ o,StR K G0 H0 G H ρ σ/\F ρ=some o/\PostX K κ W G0 H0 E o
abbrev SX (X:Cx) (κ:Nat->Addr) (W:XK) (s:Stmt) (F:Rho->Option zAy):Prop:=PS X s (tSx X.K κ W F)
abbrev SXs (X:Cx) (κ:Nat->Addr) (W:XK) (s:List Stmt) (F:Rho->Option zAy):Prop:=PSs X s (tSx X.K κ W F)
section
variable {X:Cx} {κ:Nat->Addr} {W:XK} {e a b:Expr} {es:List Expr} {f g:ROd} {fl:ROl} {p:ROb} {pos:Pos} {F F':Rho->Option zAy} {F0:ROo} {st:Stmt} {rest:List Stmt}
noncomputable def oX (F:ROo):Rho->Option zAy:=λρ=>(F ρ).map .o
theorem zHm (h:SS X st F0):SX X κ W st (oX F0):=ym h λQ σ H=>by
 rintro ⟨G0,H0,G,ρ,o,st,ef,k⟩
 obtain ⟨x,e1,rfl⟩:=zUZ.mp ef
 exact ⟨G0,H0,G,ρ,x,st,e1,k⟩
theorem zFy (h:SSs X rest F0):SXs X κ W rest (oX F0):=zHV h λQ σ H=>by
 rintro ⟨G0,H0,G,ρ,o,st,ef,k⟩
 obtain ⟨x,e1,rfl⟩:=zUZ.mp ef
 exact ⟨G0,H0,G,ρ,x,st,e1,k⟩
noncomputable def sqX (F F':Rho->Option zAy):Rho->Option zAy:=λρ=>(F ρ).bind λo=>match o with
 |.o (.nx ρ')=>F' ρ'
 |o=>some o
theorem qe (h1:SX X κ W st F) (h2:SXs X κ W rest F'):SXs X κ W (st::rest) (sqX F F'):=zHV (zJN h1 h2) λQ σ H=>by
 rintro ⟨G0,H0,G,ρ,o,st,ef,k⟩
 obtain ⟨o1,e1,e2⟩:=zUX.mp ef
 refine ⟨G0,H0,G,ρ,o1,st,e1,?_⟩
 cases o1 with
 |o x=>
  cases x with
  |nx ρ'=>exact λσ' G' H' st'=>⟨G0,H0,G',ρ',o,st',e2,k⟩
  |rt d=>cases e2;exact k
  |ro d=>cases e2;exact k
  |rm d ρ=>cases e2;exact k
  |bk d=>cases e2;exact k
  |ct d=>cases e2;exact k
 |ex c=>cases e2;exact k
theorem zMF (h1:SX X κ W st F):SXs X κ W [st] F:=zLJ h1
noncomputable def zPs (c:ROb) (F F':Rho->Option zAy):Rho->Option zAy:=λρ=>(c ρ).bind λb=>if b=true then F ρ else F' ρ
theorem zTc {c:Expr} {A B:List Stmt} (hc:SB X c p) (ha:SXs X κ W A F) (hb:SXs X κ W B F'):SX X κ W (.If c A B pos) (zPs p F F'):=ym (zSh hc ha hb) λQ σ H=>by
 rintro ⟨G0,H0,G,ρ,o,st,ef,k⟩
 obtain ⟨d,e1,e2⟩:=zUX.mp ef
 refine ⟨G,ρ,d,st.bs.gh,st.er,e1,λG' H' t=>?_⟩
 cases d with
 |true=>rw [zUp rfl] at e2 ⊢;exact ⟨G0,H0,G',ρ,o,st.step t,e2,k⟩
 |false=>rw [zVD zU7] at e2 ⊢;exact ⟨G0,H0,G',ρ,o,st.step t,e2,k⟩
noncomputable def forX (g:D->Rho->Option Rho) (F:Rho->Option zAy):List D->Rho->Option zAy
 | [],ρ=>some (.o (.nx ρ))
 |d::ds,ρ=>(g d ρ).bind λρ1=>(F ρ1).bind λo=>match o with
  |.o (.nx ρ')=>forX g F ds ρ'
  |.o (.ct ρ')=>forX g F ds ρ'
  |.o (.bk ρ')=>some (.o (.nx ρ'))
  |.o (.rt d)=>some (.o (.rt d))
  |.o (.ro s)=>some (.o (.ro s))
  |.o (.rm d ρ)=>some (.o (.rm d ρ))
  |.ex c=>some (.ex c)
noncomputable def zAk (c:ROb) (F:Rho->Option zAy):Nat->Rho->Option zAy
 |0,_=>none
 |n+1,ρ=>(c ρ).bind λb=>if b=true then (F ρ).bind λo=>match o with
   |.o (.nx ρ')=>zAk c F n ρ'
   |.o (.ct ρ')=>zAk c F n ρ'
   |.o (.bk ρ')=>some (.o (.nx ρ'))
   |.o (.rt d)=>some (.o (.rt d))
   |.o (.ro s)=>some (.o (.ro s))
   |.o (.rm d ρ)=>some (.o (.rm d ρ))
   |.ex c=>some (.ex c)
  else some (.o (.nx ρ))
noncomputable def zEm (n:Nat) (p:ROb) (F:Rho->Option zAy):Rho->Option zAy:=λρ=>zAk p F n ρ
theorem zOJ (n:Nat) {c:Expr} {body:List Stmt} (hp:PassesOwn (model X.prog X.w) X.A X.env X.xe) (hc:SB X c p) (hb:SXs X κ W body F):SX X κ W (.While c body [] pos) (zEm n p F):=
 ym (zJP hp hc hb) λE σ H=>by
  rintro ⟨G0,H0,G,ρ,o,st,ef,k⟩
  refine ⟨λm σ' H'=>∃ G' ρ',StR X.K G0 H0 G' H' ρ' σ'/\zAk p F m ρ'=some o,⟨n,G,ρ,st,ef⟩,?_⟩
  rintro m σ2 H2 ⟨G2,ρ2,st2,ef2⟩
  cases m with
  |zero=>cases ef2
  |succ m=>
   obtain ⟨b,e1,e2⟩:=zUX.mp ef2
   refine ⟨G2,ρ2,b,st2.bs.gh,st2.er,e1,λG3 H3 t3=>?_⟩
   cases b with
   |false=>
    rw [zVD zU7] at e2 ⊢
    cases e2
    exact k σ2 G3 H3 (st2.step t3)
   |true=>
    rw [zUp rfl] at e2 ⊢
    obtain ⟨o3,e5,e6⟩:=zUX.mp e2
    refine ⟨λσ' H'=>∃ G' ρ',StR X.K G0 H0 G' H' ρ' σ'/\zAk p F m ρ'=some o,λσ' H' h=>⟨m,zW0 _,h⟩,G0,H0,G3,ρ2,o3,st2.step t3,e5,?_⟩
    cases o3 with
    |o x3=>
     cases x3 with
     |nx ρ'=>exact λσ5 G5 H5 st5=>⟨G5,ρ',st5,e6⟩
     |ct ρ'=>exact λσ5 G5 H5 st5=>⟨G5,ρ',st5,e6⟩
     |bk ρ'=>cases e6;exact k
     |rt d=>cases e6;exact k
     |ro d=>cases e6;exact k
     |rm d ρ=>cases e6;exact k
    |ex c=>cases e6;exact k
end
noncomputable def spX (K:Fg) (κ:Nat->Addr) (f:List D->Option (Except Nat D)) (n:Nat):Sp:=λvs H Q E=>∃ G ds r,zi G H/\Reps K G ds vs/\ds.length=n/\f ds=some r/\match r with
 |.ok d=>∀ v G' H',zd G H G' H'->Rep K G' d v->Q v H'
 |.error c=>∀ G' H',zd G H G' H'->E (.ref (κ c)) none H'
noncomputable def zQ9 (N:List Str) (F:Rho->Option zAy) (ds:List D):Option (Except Nat D):=(F (ds.map Sl.v++List.replicate (N.length-ds.length) .un)).bind λo=>match o with
 |.o (.rt d)=>some (.ok d)
 |.o (.nx _)=>some (.ok .non)
 |.ex c=>some (.error c)
 |_=>none
section
variable {P:Program} {w:World} {K:Fg} {mg:MGt} {base:Heap} {κ:Nat->Addr}
theorem zPt {x qual:Str} {st:Stmt} {fa:Addr} {fd:FuncData} {N ps:List Str} {k:Nat} {F:Rho->Option zAy} {f:List D->Option (Except Nat D)}
  (FF:Fun K x qual st fa fd) (S:zT N ps (zH st))
  (hbody:∀ (cdv:Value) (A:Around) (outer:List Env) (s:Shared) (H:Hp) (E:XK),zAO k (A.deeper (envOfC qual (zH st) s.heap.objs.size fa cdv))->SXs (cxE P w K mg base N qual (zH st) fa cdv A outer s H E) κ E (yE st) F)
  (hf:∀ ds r,ds.length=ps.length->f ds=some r->zQ9 N F ds=some r):zCb P w K mg base (CXE P w) (k+1) fa fd ps (spX K κ f ps.length):=by
 obtain ⟨oc,od,kV,doc,pm,an,cdv,ct,osl,rfl,lk,hcd⟩:=FF.ex
 refine zNq lk hcd S (λvs H Q E h=>?_) λA outer s H vs Q E hr h=>?_
 ·obtain ⟨G,ds,d,_,r,hn,_⟩:=h
  rw [<- r.length,hn]
 ·obtain ⟨G,ds,r,sm,rp,hn,ef,kk⟩:=h
  refine ⟨_,hbody cdv A outer s H E hr,?_⟩
  obtain ⟨o,e1,e2⟩:=zUX.mp (hf ds r hn ef)
  have er:=zGU (N:=N) (H:=H) rp
  refine ⟨G,H,G,_,o,⟨er,⟨sm,zi.refl _,zi.refl _,λb o e n=>by rw [e] at n;cases n⟩,λi u a h1 h2 h3=>?_⟩,e1,?_⟩
  ·exfalso
   by_cases hi:i<ds.length
   ·rw [zU5 (by simpa using hi),zVK] at h1
    cases q:ds[i]? with
    |none=>rw [q] at h1;cases h1
    |some d=>rw [q] at h1;cases h1;cases h2
   ·rw [zU8 (by simpa using hi),zVT] at h1
    split at h1<;>cases h1
    cases h2
  ·cases o with
   |o x=>
    cases x with
    |rt d'=>
     cases e2
     exact λv G' H' b r'=>kk v G' H' ⟨b.gg,b.hh,b.gh,b.fr⟩ r'
    |nx ρ=>
     cases e2
     exact λσ' G' H' st'=>kk .non G' H' ⟨st'.bs.gg,st'.bs.hh,st'.bs.gh,st'.bs.fr⟩ (zAQ.mpr rfl)
    |bk ρ=>cases e2
    |ct ρ=>cases e2
    |ro ρ=>cases e2
    |rm d ρ=>cases e2
   |ex c=>
    cases e2
    exact λG' H' b=>kk G' H' ⟨b.gg,b.hh,b.gh,b.fr⟩
end
structure zTd (P:Program) (w:World) (K:Fg) (mg:MGt) (base:Heap) (κ:Nat->Addr) (k:Nat) (x:Str) (n:Nat) (F:List D->Option (Except Nat D)):Prop where
 ex:∃ f fd ps,zCb P w K mg base (CXE P w) k f fd ps (spX K κ F n)/\mg x=some (.ref f)/\PySem.W.keepIn K (.ref f)=true/\L2.zAu K fd ps []
section
variable {X:Cx} {κ:Nat->Addr} {W:XK} {e:Expr} {es:List Expr} {fl:ROl} {pos p cpos:Pos} {x y:Str} {k n:Nat} {f:List D->Option (Except Nat D)}
noncomputable def tCx (K:Fg) (κ:Nat->Addr) (W:XK) (g:Rho->Option (Except Nat D)):TE:=λσ H Q=>∃ G ρ r,zi G H/\Er K G H ρ σ/\g ρ=some r/\match r with
 |.ok d=>∀ v G' H',zd G H G' H'->Rep K G' d v->Q v H'
 |.error c=>∀ G' H',zd G H G' H'->W (.ref (κ c)) none H'
theorem zMG (h:zTd X.prog X.w X.K X.mg X.base κ k x n f) (hP:zBb (CXE X.prog X.w) X W) (hr:zAO k X.A) (hg:X.env.kindOf x=some .globalImplicit) (hn:(e::es).length=n) (ha:SA X (e::es) fl) (hdb:(x == ("__debug__" : Str))=false:=by decide)
  (he:starEach (e::es) X.env=(false,eval e X.env)::starEach es X.env:=by rfl) (hpl:(backTo pos (starEach es X.env)).any (·.1)=false:=by rfl) :
  PE X (.Call (.Name x p) (e::es) [] pos) (tCx X.K κ W λρ=>(fl ρ).bind f):=by
 obtain ⟨fa,fd,ps,FO,hm,hk,hb⟩:=h.ex
 refine zA7 (zGL (E:=W) FO hr hg hm hk hb .nil hP ha.pa hdb he hpl) λσ H Q zz=>?_
 obtain ⟨G,ρ,r,s,er,ef,k⟩:=zz
 obtain ⟨xs,e1,e2⟩:=zUX.mp ef
 refine ⟨G,ρ,xs,s,er,e1,λvs G1 H1 t1 r1=>?_⟩
 show spX X.K κ f n (vs ++ []) H1 Q W
 rw [zVP]
 refine ⟨G1,xs,r,t1.s,r1,by rw [ha.len _ _ e1,hn],e2,?_⟩
 cases r with
 |ok d=>exact λv G' H' t r=>k v G' H' (t1.trans t) r
 |error c=>exact λG' H' t=>k G' H' (t1.trans t)
noncomputable def zMH (g:Rho->Option (Except Nat D)):Rho->Option zAy:=λρ=>(g ρ).map λr=>match r with
 |.ok _=>.o (.nx ρ)
 |.error c=>.ex c
theorem zRA {g:Rho->Option (Except Nat D)} (h:PE X e (tCx X.K κ W g)) (hs:swapsWith e none pos.line X.env=pure false:=by rfl):SX X κ W (.Expr e pos) (zMH g):=
 ym (zBq h hs) λE σ H=>by
  rintro ⟨G0,H0,G,ρ,o,st,ef,k⟩
  obtain ⟨r,e1,rfl⟩:=zUZ.mp ef
  refine ⟨G,ρ,r,st.bs.gh,st.er,e1,?_⟩
  cases r with
  |ok d=>exact λv G' H' t r=>k σ G' H' (st.step t)
  |error c=>exact λG' H' t=>k G' H' (st.bs.step t)
noncomputable def zOK (i:Nat) (g:Rho->Option (Except Nat D)):Rho->Option zAy:=λρ=>(g ρ).map λr=>match r with
 |.ok d=>.o (.nx (ρ.set i (.v d)))
 |.error c=>.ex c
theorem zTe (i:Nat) {pos':Pos} {g:Rho->Option (Except Nat D)} (h:PE X e (tCx X.K κ W g)) (hN:X.N.Nodup) (hi:X.N[i]?=some y) (hx:Loc X.env.scope y) (hs:swapsWith e (some (.Name y pos')) pos.line X.env=pure false:=by rfl)
  (hf:X.fn y=true\/X.env.scope.names.lookup y=some .local:=by first|exact .inl rfl|exact .inr rfl|assumption):SX X κ W (.Assign [.Name y pos'] e pos) (zOK i g):=
 ym (zDw hN hi hx h hs hf) λE σ H=>by
  rintro ⟨G0,H0,G,ρ,o,st,ef,k⟩
  obtain ⟨r,e1,rfl⟩:=zUZ.mp ef
  refine ⟨G,ρ,r,st.bs.gh,st.er,e1,?_⟩
  cases r with
  |ok d=>exact λv G' H' t r=>k _ G' H' ((st.step t).setV r)
  |error c=>exact λG' H' t=>k G' H' (st.bs.step t)
end
section
variable {P:Program} {w:World} {K:Fg} {mg:MGt} {base:Heap} {N:List Str} {qual:Str} {scope:Scope} {fa:Addr} {cd:Value} {A:Around} {outer:List Env} {s₀:Shared} {H₀:Hp} {E:XK} {κ:Nat->Addr}
noncomputable def zD1 (c:Nat) (fl:ROl):Rho->Option zAy:=λρ=>(fl ρ).map λ_=>.ex c
theorem zJf (c:Nat) {x:Str} {e:Expr} {fl:ROl} {np cpos pos:Pos} (hC:zQ8 K (κ c)) (hg:Gl (cxE P w K mg base N qual scope fa cd A outer s₀ H₀ E) x) (hm:mg x=some (.ref (κ c))) (ha:SA (cxE P w K mg base N qual scope fa cd A outer s₀ H₀ E) [e] fl) (hd:(x == ("__debug__" : Str))=false:=by decide)
  (he:starEach [e] (cxE P w K mg base N qual scope fa cd A outer s₀ H₀ E).env=(false,eval e (cxE P w K mg base N qual scope fa cd A outer s₀ H₀ E).env)::starEach [] (cxE P w K mg base N qual scope fa cd A outer s₀ H₀ E).env:=by rfl)
  (hpl:(backTo cpos (starEach [] (cxE P w K mg base N qual scope fa cd A outer s₀ H₀ E).env)).any (·.1)=false:=by rfl) :
  SX (cxE P w K mg base N qual scope fa cd A outer s₀ H₀ E) κ E (.Raise (some (.Call (.Name x np) [e] [] cpos)) none pos) (zD1 c fl):=
 ym (zOI hC hg hm ha.pa hd he hpl) λQ σ H=>by
  rintro ⟨G0,H0,G,ρ,o,st,ef,k⟩
  obtain ⟨xs,e1,rfl⟩:=zUZ.mp ef
  refine ⟨G,ρ,xs,st.bs.gh,st.er,e1,λvs G1 H1 t1 r1=>⟨?_,k G1 H1 (st.bs.step t1)⟩⟩
  rw [<- r1.length,ha.len _ _ e1]
  exact zAj (by simp)
end
section
variable {X:Cx} {e:Expr} {f:ROd} {pos p1 p2 p3:Pos} {j1 j3}
noncomputable def fsO (a b:Str):D->Option D
 |.int i=>if 0<=i/\i<1000000/\(Str.empty++a++((toString i:String):Str)++b).length<=1000000 then some (.str (Str.empty++a++((toString i:String):Str)++b)) else none
 |_=>none
theorem zMI {i:Int} (h0:0<=i) (h1:i<1000000):i.natAbs.log2<1920:=by
 by_cases z:i.natAbs=0
 ·rw [z];decide
 ·have h2:i.natAbs<2 ^ 20:=by omega
  have h3:=(Nat.log2_lt z).mpr h2
  omega
theorem app_len (a b:Str):(a++b).length=a.length+b.length:=by
 show (Str.append a b).length=_
 simp [Str.append,Str.length]
theorem zMJ {a b:Str} (ha:SR X e f):SE X (.JoinedStr [.Constant (.str a) j1 p1,.FormattedValue e (-1) none p2,.Constant (.str b) j3 p3] pos) (b1 f (fsO a b)):=by
 intro pins s σ H Q I h
 obtain ⟨G,ρ,d,sm,er,ef,k⟩:=h
 obtain ⟨d1,e1,ef⟩:=zUX.mp ef
 cases d1 with
 |int i=>
  simp only [fsO] at ef
  split at ef
  ·rename_i hc
   obtain ⟨h0,h1,h2⟩:=hc
   cases ef
   rw [app_len,app_len,app_len] at h2
   refine JoinedStr_many (joinParts_cons (Calls.Constant_str ⟨by rw [app_len,zWE];omega,?_⟩))
   refine joinParts_cons (FormattedValue_plain (thn (ha pins _ σ H (λv H'=>∃ G',zd G H G' H'/\zCC X.K G' H' (.int i) v) (I.tok _) ⟨G,ρ,_,sm,er,e1,λv G' H' t r=>⟨G',t,r⟩⟩) λv s2 zz=>?_))
   obtain ⟨x,H1,I1,rv,G',t1,r1⟩:=zz
   have hx:=r1.int
   subst hx
   obtain ⟨tk,rfl⟩:=(show ∃ t,v=Value.int i t from rv)
   refine formatField_int_small (zMI h0 h1) ⟨by rw [app_len,app_len,zWE];omega,?_⟩
   refine joinParts_cons (Calls.Constant_str ⟨by rw [app_len,app_len,app_len,zWE];omega,joinParts_nil ?_ (by rw [app_len,app_len,app_len,zWE];omega)⟩)
   exact ⟨.str _,H1,I1.tok _,⟨_,rfl⟩,k _ G' H1 t1 (zAR.mpr rfl)⟩
  ·cases ef
 |_=>cases ef
end
structure zIh (X:Cx) (pins:PNt) (H:Hp) (x:Addr):Prop where
 h0:X.s₀.heap.get? x=none
 hH:H x=none
 hL:x≠X.env.locals
 hC:∀ y c,X.env.cells.lookup y=some c->c≠x
 hp:∀ p∈X.pn++pins,p.1≠x
section
variable {X:Cx} {pins:PNt} {σ:L2.St} {H H':Hp} {s s':Shared}
theorem zTf (I:Inv X pins σ H s) (hex:X.ex = []) {x:Addr} (n:s.heap.get? x=none) (hH:H' x=none):zIh X pins H' x:=by
 refine ⟨?_,hH,λz=>?_,λy c e z=>?_,λp hp z=>?_⟩
 ·cases q:X.s₀.heap.get? x with
  |none=>rfl
  |some o=>
   obtain ⟨o',q'⟩:=I.base.there x o q (by rw [hex];simp)
   rw [n] at q';cases q'
 ·obtain ⟨m,⟨o,_,_,ho,_⟩,_⟩:=I.loc
  rw [z,ho] at n;cases n
 ·obtain ⟨v,o,ho,_⟩:=I.cell y c e
  rw [z,n] at ho;cases ho
 ·have:=(I.pin p hp).1
  rw [z,n] at this;cases this
theorem zMK (I:Inv X pins σ H s) {x T:Addr} {h':Heap} (nx:zIh X pins H x) (nT:zIh X pins H T) (st:Heap.StaysIn (PySem.W.hideAll s.heap (x::T::frs X.stack)) h') (up:s.heap.UpToSlots h'):Inv X pins σ H { s with heap:=h' }:=by
 have keep:∀ b o,s.heap.get? b=some o->b≠x->b≠T->b∉frs X.stack->h'.get? b=some o:=λb o e n1 n2 n3=>st b o (zV1 _ e (by simp [n1,n2,n3]))
 have fr:∀ b o,s.heap.get? b=some o->b∈frs X.stack->∃ sl,h'.get? b=some { o with slots:=sl }:=λb o e m=>by
  obtain ⟨_,ob,ho,hd⟩:=I.stack.mem m
  rw [e] at ho;cases ho
  exact up b o e hd
 have any:∀ b o,s.heap.get? b=some o->b≠x->b≠T->∃ sl,h'.get? b=some { o with slots:=sl }:=λb o e n1 n2=>by
  by_cases m:b∈frs X.stack
  ·exact fr b o e m
  ·exact ⟨o.slots,keep b o e n1 n2 m⟩
 refine I.stepN (g':=s.gens) (t':=s.toks) (d':=s.drawn) (ch:=[x,T]) (λb hb=>?_) (λb o hL nf nc e n=>?_) (λb o _ _ nc e n=>?_) (λb o _ e n=>n) (λb o nc e=>?_) (λ_ _ e=>e) (λ_ _ _ e=>e) (λb ps e=>⟨#[],by rw [e];simp⟩) (λm hm=>?_) ?_ I.bare
 ·have:b=x\/b=T:=by simpa using hb
  rcases this with rfl|rfl
  ·exact ⟨.inr nx.h0,nx.hL,nx.hC,nx.hp⟩
  ·exact ⟨.inr nT.h0,nT.hL,nT.hC,nT.hp⟩
 ·have n':b≠x/\b≠T:=by simpa using nc
  exact keep b o e n'.1 n'.2 λz=>(zUg.mp (I.stkSub b z)).elim hL nf
 ·have n':b≠x/\b≠T:=by simpa using nc
  exact any b o e n'.1 n'.2
 ·have n':b≠x/\b≠T:=by simpa using nc
  obtain ⟨sl,q⟩:=any b o e n'.1 n'.2
  exact ⟨_,q⟩
 ·exact up.ns hm
 ·refine HOk.on I.hok λb u o e q=>?_
  refine keep b u q (λz=>?_) (λz=>?_) λz=>?_
  ·rw [z,nx.hH] at e;cases e
  ·rw [z,nT.hH] at e;cases e
  ·rw [I.stkFree b z] at e;cases e
end
section
variable {X:Cx} {κ:Nat->Addr} {e:Expr} {es:List Expr} {fl:ROl} {pos p:Pos} {x:Str} {k n:Nat} {f:List D->Option (Except Nat D)}
end
abbrev hdX (X:Cx) (y:Addr):Cx:={ X with A:=X.A.mark (some (.ref y)),calm:=false }
theorem zPu {X:Cx} {pins:PNt} {σ:L2.St} {H:Hp} {s:Shared} (I:Inv X pins σ H s) (y:Addr):Inv (hdX X y) pins σ H s:=
 ⟨⟨I.ok.mod,I.ok.kind,I.ok.glob,I.ok.blt,I.ok.above,I.ok.inj,I.ok.has,I.ok.cab,λz=>(by cases z),I.ok.frames,I.ok.stk,I.ok.exf,I.ok.bs,I.ok.bsz,I.ok.noex,I.ok.exfs,I.ok.funs,I.ok.frf⟩,I.os,I.bare,I.base,I.loc,I.cell,I.free,I.freeC,I.pin,I.hok,I.len⟩
theorem zEH {X:Cx} {pins:PNt} {σ:L2.St} {H:Hp} {s:Shared} {y:Addr} (ok:X.Ok) (I:Inv (hdX X y) pins σ H s):Inv X pins σ H s:=
 ⟨ok,I.os,I.bare,I.base,I.loc,I.cell,I.free,I.freeC,I.pin,I.hok,I.len⟩
theorem zRB {X:Cx} {pins:PNt} {D:zLI} {f:Flow} {s:Shared} {y:Addr} (ok:X.Ok) (h:SP (hdX X y) pins D f s):SP X pins D f s:=by
 cases f with
 |next=>obtain ⟨σ',H',I,q⟩:=h;exact ⟨σ',H',zEH ok I,q⟩
 |brk=>obtain ⟨σ',H',I,q⟩:=h;exact ⟨σ',H',zEH ok I,q⟩
 |cont=>obtain ⟨σ',H',I,q⟩:=h;exact ⟨σ',H',zEH ok I,q⟩
 |ret u=>obtain ⟨v,σ',H',I,r,q⟩:=h;exact ⟨v,σ',H',zEH ok I,r,q⟩
section
variable {X:Cx} {C:Addr} {xc:Str} {np hpos:Pos} {b₀:Stmt} {suite:List Stmt} {rest:List ExceptHandler} {th:TS}
theorem zTg (hC:zQ8 X.K C) (hg:Gl X xc) (hm:X.mg xc=some (.ref C)) (hst:X.stack=X.env::X.outer) (hfr:X.env.frame=some X.env.locals) {pins:PNt} {σ:L2.St} {H:Hp} {s:Shared} {y T:Addr} (I:Inv X pins σ H s) (fl:Fly X.stack y T (.ref C) s.heap) (ny:zIh X pins H y) (nT:zIh X pins H T)
  (hb:PSs (hdX X y).nox (b₀::suite) th) {D:zLI} (ht:th D σ H) {E:VSt} (hd:(xc == ("__debug__" : Str))=false:=by decide) :
  wpAny (model X.prog X.w) X.A (noteFrame (.ref y) X.env) (λ_ s₂=>wpAny (model X.prog X.w) X.A (setFlight (.ref y) none) (λ_ s₃=>
   wpAny (model X.prog X.w) X.A (handleBy (.ref y) X.env (.ExceptHandler (some (.Name xc np)) none (b₀::suite) hpos::rest)) (SP X pins D) E s₃) E s₂) E s:=by
 obtain ⟨a0,fl⟩:=fl
 have fl':=fl
 rw [hst] at fl
 have frm:=I.ok.frames
 rw [hst] at frm
 have stB:∀ h',Heap.StaysIn (PySem.W.hideAll s.heap (y::T::frs (X.env::X.outer))) h'->Heap.StaysIn (PySem.W.hideAll s.heap (y::T::frs X.stack)) h':=λh' z=>by rw [hst];exact z
 refine wpAny_looks_onW frm hfr fl λh4 held4 up4=>?_
 refine wpAny_landsW (s:={ s with heap:=h4 }) held4 λh5 fl5 up5=>?_
 have I5:Inv X pins σ H { s with heap:=h5 }:=zMK I ny nT (stB _ fl5.1) (up4.trans up5)
 obtain ⟨ob,hob,hobc⟩:=fl5.there
 refine wpAny_handleBy_cons (codeAny_handlers_test ?_) (by intro q;cases q)
 refine zGJ (zPu I5 y) hg hm ?_ hd
 obtain ⟨bm,Nn,nm,qn,bs,hdct,sn,sub,ab,col,dd,k0,k1,k2,k3,k5,oN,o1,oN1,oAll⟩:=zME hC
 have o4:=(oAll _ I5.kIn).2.2
 refine wpAny_excMatches_sub_self (I5.kIn _ _ o1) hob hobc (o4.hasType (by decide)) (codeAny_handlers_suite ?_)
 refine lands_againW (s:={ s with heap:=h5 }) fl5 λh6 fl6 up6=>?_
 have I6:Inv X pins σ H { s with heap:=h6 }:=zMK I ny nT (stB _ fl6.1) ((up4.trans up5).trans up6)
 exact zVM (hb pins _ σ H D ((zPu I6 y).wish _) ht) (λfw s2 q=>zRB I.ok (SP.unwish q)) λ_ _ z=>False.elim z
end
section
variable {X:Cx} {κ:Nat->Addr} {e:Expr} {es:List Expr} {fl:ROl} {pos p cpos epos np hpos:Pos} {x xc y:Str} {k n:Nat} {f:List D->Option (Except Nat D)} {b₀:Stmt} {suite:List Stmt} {Fh:ROo}
end
noncomputable def zC0 (ρ:Rho) (i:Nat):Option Ob:=match ρ[i]? with
 |some (.o _ x)=>some x
 |some (.b _ x)=>some x
 |_=>none
noncomputable def zC1 (C:Addr) (f:Str):Ob->Option Fl
 |.ins C' fs=>if C'=C then fs.lookup f else none
 |_=>none
noncomputable def zFz (C:Addr) (i:Nat) (f:Str) (ρ:Rho):Option Fl:=(zC0 ρ i).bind (zC1 C f)
noncomputable def flV:Fl->Option D
 |.v d=>some d
 |_=>none
noncomputable def flR:Fl->Option D
 |.v d=>some d
 |.f (.l xs)=>some (.lst xs)
 |_=>none
theorem zCE {α:Type} {f:Str} {x:α}:∀ {fs:List (Str×α)},fs.lookup f=some x->(f,x)∈fs
 | [],h=>by cases h
 |(g,y)::fs,h=>by
  rw [zUy] at h
  split at h
  ·rename_i e
   have:=eq_of_beq e
   subst this
   cases h
   exact zUd ..
  ·exact zUY _ (zCE h)
structure At (K:Fg) (G H:Hp) (x:Ob) (a:Addr):Prop where
 rep:zLl K G H x a
 nd:(fpO H x a).Nodup
 fr:∀ c∈fpO H x a,G c=none
section
variable {K:Fg} {G H G' H':Hp} {ρ:Rho} {σ:L2.St} {i:Nat} {x:Ob} {a C:Addr} {f:Str} {fl:Fl}
theorem zCF (e:Er K G H ρ σ) (h:zC0 ρ i=some x):∃ a,σ[i]?=some (some (.ref a))/\At K G H x a:=by
 unfold zC0 at h
 split at h
 ·rename_i c y q
  cases h
  obtain ⟨a,h1,h2,h3⟩:=e.slot i _ q rfl
  exact ⟨a,h1,h2.1.1,h2.1.2,h3⟩
 ·rename_i c y q
  cases h
  obtain ⟨a,h1,h2,h3⟩:=e.slot i _ q rfl
  exact ⟨a,h1,h2.1.1,h2.1.2,h3⟩
 ·cases h
theorem At.step (h:At K G H x a) (t:zd G H G' H'):At K G' H' x a:=by
 have q:=h.rep.same t.g λc m u z=>t.h _ _ z
 refine ⟨q.1,by rw [q.2];exact h.nd,λc m=>?_⟩
 rw [q.2] at m
 obtain ⟨u,e⟩:=h.rep.there c m
 cases z:G' c with
 |none=>rfl
 |some o=>have:=t.f c o z (h.fr c m);rw [e] at this;cases this
theorem At.fld (h:At K G H x a) (e:zC1 C f x=some fl):∃ dx ws u,H a=some (.ins C dx ws)/\ws.lookup f=some u/\zK8 K G H fl u/\∀ c∈fpL H fl u,G c=none:=by
 cases x with
 |p y=>cases e
 |ins C' fs=>
  simp only [zC1] at e
  split at e
  ·rename_i z
   subst z
   obtain ⟨dx,ws,h1,h2,h3,h4⟩:=h.rep
   obtain ⟨u,q1,q2⟩:=h3 _ (zCE e)
   refine ⟨dx,ws,u,h1,q1,q2,λc m=>h.fr c ?_⟩
   simp only [fpO]
   rw [h1]
   exact zUY _ (zUY _ (zDU (zCE e) q1 m))
  ·cases e
end
section
variable {X:Cx} {o:Expr} {pos:Pos} {C:Addr} {f:Str} {i:Nat}
theorem zHn (i:Nat) (c:Cls X.K C) (n:qO X.K C f) (ho:PE X o (zBi i)) (hb:attributeBase o f X.env (eval o X.env)=eval o X.env:=by rfl):SR X (.Attribute o f pos) (λρ=>(zFz C i f ρ).bind flR):=
 zA7 (zES ho hb) λσ H Q=>by
  rintro ⟨G,ρ,d,s,er,ef,k⟩
  obtain ⟨fl,e1,e2⟩:=zUX.mp ef
  obtain ⟨x,e3,e4⟩:=zUX.mp e1
  obtain ⟨a,q1,A⟩:=zCF er e3
  obtain ⟨dx,ws,u,w1,w2,w3,w4⟩:=A.fld e4
  refine ⟨_,q1,a,C,dx,ws,u,rfl,w1,c,n,w2,k u G H (zd.refl s) ?_⟩
  cases fl with
  |v d'=>cases e2;exact .fr w3
  |f y=>
   cases y with
   |l xs=>
    cases e2
    obtain ⟨b,rfl,vs,z1,z2⟩:=w3
    exact .ow (w4 b (zUf.mpr rfl)) z1 z2
   |_=>cases e2
theorem zTh (i:Nat) (c:Cls X.K C) (n:qO X.K C f) (ho:PE X o (zBi i)) (hb:attributeBase o f X.env (eval o X.env)=eval o X.env:=by rfl):SE X (.Attribute o f pos) (λρ=>(zFz C i f ρ).bind flV):=
 zA7 (zES ho hb) λσ H Q=>by
  rintro ⟨G,ρ,d,s,er,ef,k⟩
  obtain ⟨fl,e1,e2⟩:=zUX.mp ef
  obtain ⟨x,e3,e4⟩:=zUX.mp e1
  obtain ⟨a,q1,A⟩:=zCF er e3
  obtain ⟨dx,ws,u,w1,w2,w3,w4⟩:=A.fld e4
  refine ⟨_,q1,a,C,dx,ws,u,rfl,w1,c,n,w2,k u G H (zd.refl s) ?_⟩
  cases fl with
  |v d'=>cases e2;exact w3
  |f y=>cases e2
end
noncomputable def spB (K:Fg) (f:Ob->List D->Option D) (n:Nat):Sp:=λvs H Q _=>∃ G x a ds ws d,vs = .ref a::ws/\zi G H/\At K G H x a/\Reps K G ds ws/\ds.length+1=n/\f x ds=some d/\∀ v G' H',zd G H G' H'->Rep K G' d v->Q v H'
noncomputable def zLB (N:List Str) (F:ROo) (a:Addr) (x:Ob) (ds:List D):Option D:=(F ((.b a x::ds.map Sl.v)++List.replicate (N.length-(ds.length+1)) .un)).bind λo=>match o with
 |.rt d=>some d
 |.nx _=>some .non
 |_=>none
theorem zGa {K:Fg} {G H:Hp} {w:Sl} {a:Addr} {ds:List D} {vs:List V} (hw:w.isObj=true) (hr:zJX K G H w a) (hf:∀ c∈fpS H w a,G c=none) (r:Reps K G ds vs):Er K G H (w::ds.map Sl.v) ((V.ref a::vs).map some):=by
 have low:∀ {i:Nat} {s:Sl},(w::ds.map Sl.v)[i]?=some s->s.isObj=true->i=0/\s=w:=λ{i s} h o=>by
  cases i with
  |zero=>simp at h;exact ⟨rfl,h.symm⟩
  |succ i=>
   simp only [zVB,zVK] at h
   cases q:ds[i]? with
   |none=>rw [q] at h;cases h
   |some d=>rw [q] at h;cases h;cases o
 refine ⟨by simp [r.length],λi d h=>?_,λi s h o=>?_,λi j s t b c ne h1 o1 h2 o2=>?_⟩
 ·cases i with
  |zero=>simp at h;subst h;cases hw
  |succ i=>
   simp only [zVB,zVK] at h
   cases q:ds[i]? with
   |none=>rw [q] at h;cases h
   |some d'=>
    rw [q] at h;cases h
    obtain ⟨v,e1,e2⟩:=r.get q
    exact ⟨v,by simp [e1],e2⟩
 ·obtain ⟨rfl,rfl⟩:=low h o
  exact ⟨a,rfl,hr,hf⟩
 ·exact absurd ((low h1 (Sl.obj_of_own o1)).1.trans (low h2 o2).1.symm) ne
theorem zC2 {N:List Str} {vs:List V}:L2.zBj N vs=vs.map some++List.replicate (N.length-vs.length) none:=by
 unfold L2.zBj;rfl
theorem zF0 {P:Program} {w:World} {K:Fg} {mg:MGt} {base:Heap} {x qual:Str} {st:Stmt} {fa:Addr} {fd:FuncData} {N ps:List Str} {k:Nat} {F:ROo} {f:Ob->List D->Option D}
  (FF:Fun K x qual st fa fd) (S:zT N ps (zH st))
  (hbody:∀ (cdv:Value) (A:Around) (outer:List Env) (s:Shared) (H:Hp),zAO k (A.deeper (envOfC qual (zH st) s.heap.objs.size fa cdv))->SSs (zGM CX0 P w K mg base N qual (zH st) fa cdv A outer s H E0).nox (yE st) F)
  (hf:∀ a y ds d,ds.length+1=ps.length->f y ds=some d->zLB N F a y ds=some d):zCb P w K mg base CX0 (k+1) fa fd ps (spB K f ps.length):=by
 refine FF.ok S (λvs H Q E h=>?_) (λcdv A outer s H vs Q E hr h=>?_)
 ·obtain ⟨G,y,a,ds,ws,d,rfl,_,_,r,hn,_⟩:=h
  rw [zUa,<- r.length,hn]
 ·obtain ⟨G,y,a,ds,ws,d,rfl,sm,hA,r,hn,ef,kk⟩:=h
  have h1:SSs (zGM CX0 P w K mg base N qual (zH st) fa cdv A outer s H E).nox (yE st) F:=hbody cdv A outer s H hr
  refine ⟨_,h1,?_⟩
  obtain ⟨o,e1,e2⟩:=zUX.mp (hf a y ds d hn ef)
  have er0:Er K G H (.b a y::ds.map Sl.v) ((V.ref a::ws).map some):=zGa rfl ⟨⟨hA.rep,hA.nd⟩,rfl⟩ hA.fr r
  have er:=er0.app (N.length-(ds.length+1)) (List.replicate (N.length-(ds.length+1)) none) (by simp)
  have er:Er K G H ((.b a y::ds.map Sl.v)++List.replicate (N.length-(ds.length+1)) .un) (L2.zBj N (.ref a::ws)):=by
   rw [zC2,zUa,<- r.length];exact er
  have noown:∀ (i:Nat) (u:Sl),((.b a y::ds.map Sl.v)++List.replicate (N.length-(ds.length+1)) Sl.un)[i]?=some u->u.isOwn=true->False:=λi u h1 h2=>by
   have hm:=zU3 h1
   rcases zUj.mp hm with m|m
   ·rcases zUg.mp m with z|m
    ·subst z;cases h2
    ·obtain ⟨d',_,rfl⟩:=zVA.mp m;cases h2
   ·rw [(zWH.mp m).2] at h2;cases h2
  refine ⟨G,H,G,_,o,⟨er,⟨sm,zi.refl _,zi.refl _,λb o e n=>by rw [e] at n;cases n⟩,λi u b h1 h2 h3=>(noown i u h1 h2).elim⟩,e1,?_⟩
  cases o with
  |rt d'=>
   cases e2
   exact λv G' H' b r'=>kk v G' H' ⟨b.gg,b.hh,b.gh,b.fr⟩ r'
  |nx ρ=>
   cases e2
   exact λσ' G' H' st'=>kk .non G' H' ⟨st'.bs.gg,st'.bs.hh,st'.bs.gh,st'.bs.fr⟩ (zAQ.mpr rfl)
  |bk ρ=>cases e2
  |ct ρ=>cases e2
  |ro ρ=>cases e2
  |rm d ρ=>cases e2
structure zHD (P:Program) (w:World) (K:Fg) (mg:MGt) (base:Heap) (C:Addr) (k:Nat) (m:Str) (n:Nat) (F:Ob->List D->Option D):Prop where
 ex:∃ f fd ps,zCb P w K mg base CX0 k f fd ps (spB K F n)/\zQS K C m f/\L2.zAu K fd ps []
noncomputable def zBQ (C:Addr) (m:Str):Ob->Bool
 |.ins C' fs=>decide (C'=C) && (fs.lookup m).isNone
 |_=>false
noncomputable def yk (C:Addr) (m:Str) (i:Nat) (fl:ROl) (F:Ob->List D->Option D):ROd:=λρ=>(zC0 ρ i).bind λx=>if zBQ C m x=true then (fl ρ).bind λds=>F x ds else none
section
variable {X:Cx} {o e:Expr} {es:List Expr} {pos apos:Pos} {C:Addr} {m:Str} {i k n:Nat} {F:Ob->List D->Option D} {fl:ROl}
theorem zJg {K:Fg} {G H:Hp} {x:Ob} {a:Addr} (h:At K G H x a) (e:zBQ C m x=true):∃ dx ws,H a=some (.ins C dx ws)/\ws.lookup m=none:=by
 cases x with
 |p y=>cases e
 |ins C' fs=>
  simp only [zBQ,zVR,zWC,Option.isNone_iff_eq_none] at e
  obtain ⟨rfl,e⟩:=e
  obtain ⟨dx,ws,h1,_,_,h4⟩:=h.rep
  exact ⟨dx,ws,h1,h4.1 m e⟩
theorem zEn {pl:Sem Bool} (i:Nat) (h:zHD X.prog X.w X.K X.mg X.base C k m n F) (c:Cls X.K C) (hr:zAO k X.A) (ho:PE X o (zBi i)) (ha:SA X (e::es) fl) (hn:(e::es).length+1=n)
  (hst:starEach (e::es) X.env=(false,eval e X.env)::starEach es X.env:=by rfl) (hpl:(backTo pos (starEach es X.env)).any (·.1)=false:=by rfl)
  (ht:eval (.Call (.Attribute o m apos) (e::es) [] pos) X.env=(do
   let ov <- eval o X.env
   standAt apos.atName
   let (f,first) <- holding [ov] (getMethod ov m pl)
   callWith pos f first (backTo pos (starEach (e::es) X.env)) (backToKw pos (keywordEach [] X.env))):=by rfl) :
  SE X (.Call (.Attribute o m apos) (e::es) [] pos) (yk C m i fl F):=by
 obtain ⟨f,fd,ps,FO,hm,hb⟩:=h.ex
 refine zA7 (zIX (pl:=pl) (dvs:=[]) (ds:=[]) (E:=E0) ho c hm FO hr hb .nil zKX ha.pa hst hpl ht) λσ H Q zz=>?_
 obtain ⟨G,ρ,d,s,er,ef,kk⟩:=zz
 obtain ⟨x,e1,ef⟩:=zUX.mp ef
 split at ef
 ·rename_i hx
  obtain ⟨ds,e2,e3⟩:=zUX.mp ef
  obtain ⟨a,q1,A⟩:=zCF er e1
  obtain ⟨dx,ws,q2,q3⟩:=zJg A hx
  refine ⟨_,q1,a,dx,ws,rfl,q2,q3,G,ρ,ds,s,er,e2,λvs G' H' t r=>?_⟩
  show spB X.K F n (V.ref a::(vs ++ [])) H' Q E0
  rw [zVP]
  exact ⟨G',x,a,ds,vs,d,rfl,t.s,A.step t,r,by rw [ha.len _ _ e2];exact hn,e3,λv G2 H2 t2 r2=>kk v G2 H2 (t.trans t2) r2⟩
 ·cases ef
theorem zBR {pl:Sem Bool} (i:Nat) (h:zHD X.prog X.w X.K X.mg X.base C k m 1 F) (c:Cls X.K C) (hr:zAO k X.A) (ho:PE X o (zBi i))
  (ht:eval (.Call (.Attribute o m apos) [] [] pos) X.env=(do
   let ov <- eval o X.env
   standAt apos.atName
   let (f,first) <- holding [ov] (getMethod ov m pl)
   callWith pos f first (backTo pos (starEach [] X.env)) (backToKw pos (keywordEach [] X.env))):=by rfl) :
  SE X (.Call (.Attribute o m apos) [] [] pos) (yk C m i zN F):=by
 obtain ⟨f,fd,ps,FO,hm,hb⟩:=h.ex
 refine zA7 (zNp (pl:=pl) (dvs:=[]) (ds:=[]) (E:=E0) ho c hm FO hr hb .nil zKX ht) λσ H Q zz=>?_
 obtain ⟨G,ρ,d,s,er,ef,kk⟩:=zz
 obtain ⟨x,e1,ef⟩:=zUX.mp ef
 split at ef
 ·rename_i hx
  obtain ⟨a,q1,A⟩:=zCF er e1
  obtain ⟨dx,ws,q2,q3⟩:=zJg A hx
  exact ⟨_,q1,a,dx,ws,rfl,q2,q3,G,x,a,[],[],d,rfl,s,A,Reps.nil,rfl,ef,kk⟩
 ·cases ef
end
noncomputable def qa (f:Str) (v:Fl):List (Str×Fl)->List (Str×Fl)
 | []=>[]
 |(g,y)::r=>if g == f then (g,v)::r else (g,y)::qa f v r
theorem zCg {f:Str} {y v:Fl}:∀ {fs:List (Str×Fl)},fs.lookup f=some y->∃ l1 l2,fs=l1++(f,y)::l2/\qa f v fs=l1++(f,v)::l2
 | [],h=>by cases h
 |(g,z)::fs,h=>by
  rw [zUy] at h
  by_cases e:g=f
  ·subst e
   rw [zUz] at h
   cases h
   exact ⟨[],fs,rfl,by simp [qa]⟩
  ·have e':(f == g)=false:=zVJ.mpr (Ne.symm e)
   have e2:(g == f)=false:=zVJ.mpr e
   rw [e'] at h
   obtain ⟨l1,l2,h1,h2⟩:=zCg (v:=v) h
   exact ⟨(g,z)::l1,l2,by rw [h1];rfl,by simp only [qa,e2,h2];rfl⟩
theorem zEo {α β:Type} {x:Str}:∀ {fs:List (Str×α)} {gs:List (Str×β)},fs.map (·.1)=gs.map (·.1)->fs.lookup x=none->gs.lookup x=none
 | [],[],_,_=>rfl
 | [],_::_,h,_=>by cases h
 |_::_,[],h,_=>by cases h
 |(a,p)::fs,(b,q)::gs,h,e=>by
  simp only [zUc,zVl] at h
  obtain ⟨rfl,h⟩:=h
  rw [zUy] at e ⊢
  split at e
  ·cases e
  ·exact zEo h e
theorem zKg {α:Type} {P S S' B:List α} (h:(P++(S++B)).Nodup) (hS:S'.Nodup) (k:∀ c∈S',c∈S\/(c∉P/\c∉B)):(P++(S'++B)).Nodup:=by
 rw [zVS] at h ⊢
 obtain ⟨h1,h2,h3⟩:=h
 rw [zVS] at h2 ⊢
 obtain ⟨h4,h5,h6⟩:=h2
 refine ⟨h1,⟨hS,h5,λa ha b hb=>?_⟩,λa ha b hb=>?_⟩
 ·rcases k a ha with q|⟨_,q⟩
  ·exact h6 a q b hb
  ·intro z;subst z;exact q hb
 ·rcases zUj.mp hb with hb|hb
  ·rcases k b hb with q|⟨q,_⟩
   ·exact h3 a ha b (zVV _ q)
   ·intro z;subst z;exact q ha
  ·exact h3 a ha b (zUt _ hb)
theorem zIi {H:Hp} {l1 l2:List (Str×Fl)} {ws:List (Str×V)} {f:Str} {y:Fl} {u:V} (e:ws.lookup f=some u):fpW H (l1++(f,y)::l2) ws=fpW H l1 ws++(fpL H y u++fpW H l2 ws):=by
 unfold fpW
 rw [List.flatMap_append,zVI,e]
section
variable {K:Fg} {G0 H0 G H H':Hp} {ρ:Rho} {σ:L2.St} {i:Nat} {a b C dx:Addr} {c:Option Addr} {f:Str} {fs:List (Str×Fl)} {ws:List (Str×V)} {y y':Fd}
theorem At.mutF (h:At K G H (.ins C fs) a) (ha:H a=some (.ins C dx ws)) (hl:fs.lookup f=some (.f y)) (hw:ws.lookup f=some (.ref b))
  (hH:∀ p u,p∉fpF H y b->H p=some u->H' p=some u) (hr:zGS K G H' y' b) (hn:(fpF H' y' b).Nodup) (hf:∀ p∈fpF H' y' b,(p∈fpF H y b\/H p=none)/\G p=none) :
  At K G H' (.ins C (qa f (.f y') fs)) a/\∀ p∈fpO H' (.ins C (qa f (.f y') fs)) a,p∈fpO H (.ins C fs) a\/H p=none:=by
 obtain ⟨l1,l2,e1,e2⟩:=zCg (v:=.f y') hl
 obtain ⟨dx',ws',z1,z2,z3,z4⟩:=h.rep
 rw [ha] at z1
 cases z1
 have hnd:=h.nd
 have eO:fpO H (.ins C fs) a=(a::dx::fpW H l1 ws)++(fpF H y b++fpW H l2 ws):=by
  simp only [fpO];rw [ha];simp only [inI];rw [e1,zIi hw];rfl
 rw [eO] at hnd
 have fr:=h.fr
 rw [eO] at fr
 have thr:=h.rep.there
 rw [eO] at thr
 obtain ⟨n1,n2,n3⟩:=zVS.mp hnd
 obtain ⟨n4,n5,n6⟩:=zVS.mp n2
 have offP:∀ p,p∈a::dx::fpW H l1 ws->p∉fpF H y b:=λp m q=>n3 p m p (zVV _ q) rfl
 have offB:∀ p,p∈fpW H l2 ws->p∉fpF H y b:=λp m q=>n6 p q p m rfl
 have stay:∀ (q:Str×Fl),(q∈l1\/q∈l2)->∃ u,ws.lookup q.1=some u/\zK8 K G H' q.2 u/\fpL H' q.2 u=fpL H q.2 u:=λq m=>by
  obtain ⟨u,r1,r2⟩:=z3 q (by rw [e1];rcases m with m|m;exact zVV _ m;exact zUt _ (zUY _ m))
  refine ⟨u,r1,r2.same (zi.refl _) λp mp v zz=>hH p v ?_ zz⟩
  rcases m with m|m
  ·exact offP p (zUY _ (zUY _ (zDU m r1 mp)))
  ·exact offB p (zDU m r1 mp)
 have ha':H' a=some (.ins C dx ws):=hH a _ (offP a (zUd ..)) ha
 have hd':H' dx=some (.own a):=hH dx _ (offP dx (zUY _ (zUd ..))) z2
 have w1:fpW H' l1 ws=fpW H l1 ws:=zGT λq m=>let ⟨u,r1,_,r3⟩:=stay q (.inl m);⟨u,r1,r3⟩
 have w2:fpW H' l2 ws=fpW H l2 ws:=zGT λq m=>let ⟨u,r1,_,r3⟩:=stay q (.inr m);⟨u,r1,r3⟩
 have eN:fpO H' (.ins C (qa f (.f y') fs)) a=(a::dx::fpW H l1 ws)++(fpF H' y' b++fpW H l2 ws):=by
  simp only [fpO];rw [ha'];simp only [inI];rw [e2,zIi hw,w1,w2];rfl
 have keys:fs.map (·.1)=(qa f (.f y') fs).map (·.1):=by rw [e2,e1];simp
 refine ⟨⟨⟨dx,ws,ha',hd',λq m=>?_,λx e=>z4.1 x (zEo keys.symm e),by have:=zVX List.length keys;simp only [zUi] at this;rw [<- this];exact z4.2⟩,?_,λp m=>?_⟩,λp m=>?_⟩
 ·rw [e2] at m
  rcases zUj.mp m with m|m
  ·obtain ⟨u,r1,r2,_⟩:=stay q (.inl m);exact ⟨u,r1,r2⟩
  ·rcases zUg.mp m with m|m
   ·subst m;exact ⟨_,hw,b,rfl,hr⟩
   ·obtain ⟨u,r1,r2,_⟩:=stay q (.inr m);exact ⟨u,r1,r2⟩
 ·rw [eN]
  refine zKg hnd hn λp m=>?_
  rcases (hf p m).1 with q|q
  ·exact .inl q
  ·refine .inr ⟨λz=>?_,λz=>?_⟩
   ·obtain ⟨u,e⟩:=thr p (zVV _ z);rw [q] at e;cases e
   ·obtain ⟨u,e⟩:=thr p (zUt _ (zUt _ z));rw [q] at e;cases e
 ·rw [eN] at m
  rcases zUj.mp m with m|m
  ·exact fr p (zVV _ m)
  ·rcases zUj.mp m with m|m
   ·exact (hf p m).2
   ·exact fr p (zUt _ (zUt _ m))
 ·rw [eN] at m
  rw [eO]
  rcases zUj.mp m with m|m
  ·exact .inl (zVV _ m)
  ·rcases zUj.mp m with m|m
   ·rcases (hf p m).1 with q|q
    ·exact .inl (zUt _ (zVV _ q))
    ·exact .inr q
   ·exact .inl (zUt _ (zUt _ m))
theorem zRC (ha:H a=some (.ins C dx ws)) (hl:fs.lookup f=some (.f y)) (hw:ws.lookup f=some (.ref b)):∀ p∈fpF H y b,p∈fpO H (.ins C fs) a:=λp m=>by
 simp only [fpO];rw [ha]
 exact zUY _ (zUY _ (zDU (zCE hl) hw m))
theorem StR.mutF (s:StR K G0 H0 G H ρ σ) (hu:ρ[i]?=some (.o c (.ins C fs))) (hl:fs.lookup f=some (.f y)) (hσ:σ[i]?=some (some (.ref a))) (ha:H a=some (.ins C dx ws)) (hw:ws.lookup f=some (.ref b))
  (hGH:zi G H') (hH:∀ p u,p∉fpF H y b->H p=some u->H' p=some u) (hr:zGS K G H' y' b) (hn:(fpF H' y' b).Nodup) (hf:∀ p∈fpF H' y' b,(p∈fpF H y b\/H p=none)/\G p=none) :
  StR K G0 H0 G H' (ρ.set i (.o c (.ins C (qa f (.f y') fs)))) σ:=by
 obtain ⟨a',h1,h2,h3⟩:=s.er.slot i _ hu rfl
 rw [hσ] at h1;cases h1
 have A:At K G H (.ins C fs) a:=⟨h2.1.1,h2.1.2,h3⟩
 obtain ⟨A',sub⟩:=A.mutF ha hl hw hH hr hn hf
 exact s.mutG hu rfl rfl hσ (zi.refl _) hGH (λp o e n=>by rw [n] at e;cases e) (λp o e n=>hH p o (λz=>n (zRC ha hl hw p z)) e) ⟨⟨A'.rep,A'.nd⟩,h2.2⟩ λp m=>⟨sub p m,A'.fr p m⟩
theorem StR.fldAt (s:StR K G0 H0 G H ρ σ) (hu:ρ[i]?=some (.o c (.ins C fs))) (hl:fs.lookup f=some (.f y)):∃ a dx ws b,σ[i]?=some (some (.ref a))/\H a=some (.ins C dx ws)/\ws.lookup f=some (.ref b)/\zGS K G H y b/\(∀ p∈fpF H y b,G p=none)/\(fpF H y b).Nodup:=by
 obtain ⟨a,h1,h2,h3⟩:=s.er.slot i _ hu rfl
 have A:At K G H (.ins C fs) a:=⟨h2.1.1,h2.1.2,h3⟩
 obtain ⟨dx,ws,u,q1,q2,⟨b,rfl,q3⟩,q4⟩:=A.fld (C:=C) (f:=f) (fl:=.f y) ((zUp rfl).trans hl)
 refine ⟨a,dx,ws,b,h1,q1,q2,q3,q4,?_⟩
 obtain ⟨l1,l2,e1,e2⟩:=zCg (v:=.f y) hl
 have nd:=A.nd
 simp only [fpO] at nd
 rw [q1] at nd
 simp only [inI] at nd
 rw [e1,zIi q2] at nd
 have nd:((a::dx::fpW H l1 ws)++(fpF H y b++fpW H l2 ws)).Nodup:=nd
 exact (zVS.mp (zVS.mp nd).2.1).1
end
end RD
namespace PySem
theorem zBk {prog:Program} {w:World} {K:Type} [DecidableEq K] {knd:HeapKind prog w K} {A:Around} {E:VSt} {s:Shared} {d a:Addr} {xs:List (K×Addr×Value)} {k:K} {v:Value} {Q:VSt} (hu:knd.room A) (hkey:knd.is s.heap k a) (hm:s.heap.DictOfH knd d xs)
  (h1:∀ p,atKey xs k=some p->Q p.2 { s with toks:=s.toks+knd.draws k })
  (hQ:atKey xs k=none->∀ h',h'.DictOfH knd d (storedH xs k a v)->Heap.SameBut d s.heap h'->Q v { s with heap:=h',toks:=s.toks+knd.draws k })
  (hsz:xs.length<=sizeLine):wpAny (model prog w) A (dictSetDefault d (.ref a) v) Q E s:=by
 obtain ⟨o,es,ep,ho,hc,hd,he,his,hn⟩:=hm
 unfold dictSetDefault
 try with_reducible refine zV5 ?_
 refine zUe (knd.pyHash hu hkey (zUe (wpAny_dictFind_heap (s:={ s with toks:=s.toks+knd.draws k }) hu hkey ho hd he his hn ?_ ?_)))
 ·intro hno
  have hnot:k∉xs.map (·.1):=not_mem_keys_of_get hno
  refine zUe (wpAny_rule (zUe (wpAny_updateDictKeys (hz:=by have e:=size_of_entries he;omega) (s:={ s with toks:=s.toks+knd.draws k }) ho hd (zUl (hQ (zWl hno) _ ⟨_,_,ep+1,zWp _ ho (Obj.isFreed_of_dict (Obj.data_mapDictKeys hd _)),
   hc.mapDictKeys _,Obj.data_mapDictKeys hd _,?_,?_,?_⟩ (Heap.SameBut.update ..))))))
  ·rw [storedH_new (zWl hno)]
   simp [he,entryOfKey]
  ·rw [storedH_new (zWl hno)]
   intro x hx
   rcases zUj.mp hx with hx|hx
   ·exact knd.keeps (his x hx) ho hd (Heap.SameBut.update ..)
   ·simp only [zUf] at hx
    subst hx
    exact knd.keeps hkey ho hd (Heap.SameBut.update ..)
  ·rw [storedH_new (zWl hno)]
   rw [zUw,zVS]
   refine ⟨hn,by simp,?_⟩
   intro x hx y hy
   simp only [zUc,zVq,zUf] at hy
   subst hy
   exact λe=>hnot (e ▸ hx)
 ·intro j p hj
  refine zUe (wpAny_dictEntries (s:={ s with toks:=s.toks+knd.draws k }) ho hd ?_)
  rw [entry_at he j,hj]
  exact zUe (wpAny_rule (zUl (h1 p (atKey_of_get hn hj))))
theorem qP {prog:Program} {w:World} {K:Type} [DecidableEq K] (knd:HeapKind prog w K) (d a:Addr) (hd:(d == sysModules)=false) (dflt:Value) :
  MeetsIn prog w (Builtin.«dict.setdefault» ⟨[.ref d,.ref a,dflt],[]⟩) (λA R s=>knd.room A.in1/\∃ k xs,knd.is s.heap k a/\s.heap.DictOfH knd d xs/\xs.length<=sizeLine /\
   (∀ p,atKey xs k=some p->R (.ok (.ret p.2)) { s with toks:=s.toks+knd.draws k }) /\
   (atKey xs k=none->∀ h',h'.DictOfH knd d (storedH xs k a dflt)->Heap.SameBut d s.heap h'->R (.ok (.ret dflt)) { s with heap:=h',toks:=s.toks+knd.draws k })):=
 .of_wp λA R s=>by
  rintro ⟨hu,k,xs,hkey,hm,hz,h1,h2⟩
  unfold Builtin.«dict.setdefault»
  refine zUe ?_
  unfold Builtin.Dict.keyAndDefault
  refine zUe (wpAny_notOrdered_dict hm.typeIs ?_)
  show wpAny _ _ (pure (d,Value.ref a,some dflt)) _ _ s
  refine zUl ?_
  show wpAny _ _ (if (d == sysModules)=true then _ else (dictSetDefault d (.ref a) dflt >>= _)) _ _ s
  rw [zVD (by rw [hd];exact zU7)]
  exact zUe (zBk hu hkey hm (λv hv=>zUl ⟨_,rfl,h1 v hv⟩) (λhn h' hm' hs'=>zUl ⟨dflt,rfl,h2 hn h' hm' hs'⟩) hz)
end PySem
namespace RD
open PySem PySem.Spec PyProof.Rows L2
noncomputable def rSetD:V->List V->Hp->VK->Prop:=λx vs H Q=>∃ a y z,x = .ref a/\vs = [y,z]/\((∃ v,zDH H a y (some v)/\((∃ kvs,H a=some (.dK kvs))\/∃ kvs,H a=some (.dT kvs))/\Q v H)\/(zDH H a y none/\∃ H',zLc H a y z H'/\Q z H'))
section
variable {X:Cx}
theorem zC3 (hu:X.A.units+1<cLine):MtM X "dict.setdefault" rSetD:=by
 intro pins s σ H x vs v us Q I rx rv h
 obtain ⟨a,y,z,rfl,rfl,h⟩:=h
 cases rx
 obtain ⟨u,r,rfl,ru,rr⟩:=rv.two
 rcases h with ⟨v,g,hm,q⟩|⟨g,H',hp,q⟩
 ·rcases hm with ⟨kvs',em⟩|⟨kvs',em⟩
  ·rcases g with ⟨kvs,k,e,ey,l⟩|⟨kvs,k,b,e,ey,eb,l⟩
   ·subst ey
    obtain ⟨zz,hd,vs,rel,dd⟩:=zHP I.hok e
    have hz:vs.length<=sizeLine:=by rw [<- rel.length];exact zz
    obtain ⟨w',hw,rw'⟩:=zFT.some_of (v:=v) (o:=valueAt vs k) (by rw [l];exact rel.val k)
    exact zWv zVb dd.typeIs zVw (zVs _ _ _) (kt_meets_setdefault (zy X.prog X.w) a (zGQ ru) hd r)
     ⟨vs,dd,hz,(λv' hv'=>by rw [hw] at hv';cases hv';exact ⟨v,H,I.tok _,rw',q⟩),(λhn=>by rw [hw] at hn;cases hn)⟩
   ·rcases e with e|⟨o,e⟩<;>(rw [em] at e;cases e)
  ·rcases g with ⟨kvs,k,e,ey,l⟩|⟨kvs,k,b,e,ey,eb,l⟩
   ·rcases e with e|⟨o,e⟩<;>(rw [em] at e;cases e)
   ·subst ey
    cases (show u=Value.ref b from ru)
    obtain ⟨zz,hd,xs,rel,dd⟩:=zHQ I.hok e
    have hz:xs.length<=sizeLine:=by rw [<- zWO rel];exact zz
    obtain ⟨w',hw,rw'⟩:=zFT.some_of (v:=v) (o:=(atKey xs k).map (·.2)) (by rw [l];exact rel.val k)
    obtain ⟨p,hp,hp2⟩:=zUZ.mp hw
    exact zWv zVb dd.typeIs zVw (zVs _ _ _) (qP (tupleKind (zy X.prog X.w)) a b hd r)
     ⟨zVu hu,k,xs,zCo I.hok eb,dd,hz,(λp' hp'=>by rw [hp] at hp';cases hp';exact ⟨v,H,I.tok _,by rw [hp2];exact rw',q⟩),(λhn=>by rw [hp] at hn;cases hn)⟩
 ·rcases hp with ⟨kvs,k,e,ey,l,eH⟩|⟨kvs,k,b,e,ey,eb,l,eH⟩
  ·subst ey eH
   have hv:zAv kvs k=none:=by
    rcases g with ⟨kvs',k',e',ey',l'⟩|⟨kvs',k',b',e',ey',eb',l'⟩
    ·rcases e' with e' | ⟨o,e'⟩
     ·rw [e] at e';cases e'
      have:k=k':=by cases k<;>cases k'<;>simp [kV] at ey'<;>rw [ey']
      subst this;exact l'.symm
     ·rw [e] at e';cases e'
    ·rcases e' with e' | ⟨o,e'⟩<;>(rw [e] at e';cases e')
   obtain ⟨zz,hd,vs,rel,dd⟩:=zQg I.hok e
   have hz:vs.length<=sizeLine:=by rw [<- rel.length];exact zz
   have hl:(zCN kvs k z).length<=sizeLine:=by have:=zAP kvs k z;omega
   have hn:valueAt vs k=none:=zFT.none_of (by rw [<- hv];exact rel.val k)
   refine zWv zVb dd.typeIs zVw (zVs _ _ _) (kt_meets_setdefault (zy X.prog X.w) a (zGQ ru) hd r)
     ⟨vs,dd,hz,(λv' hv'=>by rw [hn] at hv';cases hv'),(λ_ h' dd' hs=>?_)⟩
   have he:∃ q,h'.get? a=some q:=let ⟨q,_,_,hq,_⟩:=dd';⟨q,hq⟩
   exact ⟨z,_,zEV I (by rw [e];exact True.intro) hs he (zPc hl hd (rel.put k rr) dd'),rr,q⟩
  ·subst ey eH
   cases (show u=Value.ref b from ru)
   have hv:zAv kvs k=none:=by
    rcases g with ⟨kvs',k',e',ey',l'⟩|⟨kvs',k',b',e',ey',eb',l'⟩
    ·rcases e' with e' | ⟨o,e'⟩<;>(rw [e] at e';cases e')
    ·cases ey'
     rcases e' with e' | ⟨o,e'⟩
     ·rw [e] at e';cases e'
      rw [eb] at eb'
      have:k.map kV=k'.map kV:=by injection eb' with z;injection z
      have:k=k':=zLb this
      subst this;exact l'.symm
     ·rw [e] at e';cases e'
   obtain ⟨zz,hd,xs,rel,dd⟩:=zQh I.hok e
   have hz:xs.length<=sizeLine:=by rw [<- zWO rel];exact zz
   have hl:(zCN kvs k z).length<=sizeLine:=by have:=zAP kvs k z;omega
   have hn:atKey xs k=none:=by
    have:=zFT.none_of (o:=(atKey xs k).map (·.2)) (by rw [<- hv];exact rel.val k)
    simpa using this
   refine zWv zVb dd.typeIs zVw (zVs _ _ _) (qP (tupleKind (zy X.prog X.w)) a b hd r)
     ⟨zVu hu,k,xs,zCo I.hok eb,dd,hz,(λp' hp'=>by rw [hn] at hp';cases hp'),(λ_ h' dd' hs=>?_)⟩
   obtain ⟨q',es,ep,hq,h2,h3,h4,_,h5⟩:=dd'
   refine ⟨z,_,zEV (ob:=.dT (zCN kvs k z)) I (by rw [e];exact True.intro) hs ⟨q',hq⟩ ⟨hl,hd,_,(rel.put k eb rr).keeps λc ys ec=>?_,q',es,ep,hq,h2,h3,h4,h5⟩,rr,q⟩
   rw [zK (zQD ec e (λz=>nomatch z))]
   exact ec
end
noncomputable def zML:List D->Option (List Key)
 | []=>some []
 |d::r=>(zFq d).bind λk=>(zML r).map (k :: ·)
noncomputable def zMM:D->Option (List Key)
 |.tup ds=>zML ds
 |_=>none
theorem zHo {K:Fg} {G:Hp}:∀ {ds:List D} {ks:List Key} {vs:List V},zML ds=some ks->Reps K G ds vs->vs=ks.map kV
 | [],ks,vs,h,r=>by cases h;exact yR.mp r
 |d::ds,ks,vs,h,r=>by
  obtain ⟨k,e1,h⟩:=zUX.mp h
  obtain ⟨l,e2,rfl⟩:=zUZ.mp h
  obtain ⟨v,t,rfl,a,b⟩:=za.mp r
  rw [zBw e1 a,zHo e2 b];rfl
theorem zBS {K:Fg} {G:Hp} {d:D} {ks:List Key} {v:V} (h:zMM d=some ks) (r:Rep K G d v):∃ b,v = .ref b/\G b=some (.tup (ks.map kV)):=by
 cases d with
 |tup ds=>
  obtain ⟨a,vs,e,q,w⟩:=zBM.mp r
  rw [zHo h w] at q
  exact ⟨a,e,q⟩
 |_=>cases h
noncomputable def zA5 {κ:Type} [DecidableEq κ] {α:Type} (kvs:List (κ×α)) (k:κ):Option α:=(kvs.find? λkv=>decide (kv.1=k)).map (·.2)
noncomputable def zCh {κ:Type} [DecidableEq κ] {α:Type} (k:κ) (x:α):List (κ×α)->List (κ×α)
 | []=>[]
 |q::r=>if q.1=k then (q.1,x)::r else q::zCh k x r
theorem zBA {κ:Type} [DecidableEq κ] {α:Type} {k:κ} {x:α}:∀ (kvs:List (κ×α)),(zCh k x kvs).map (·.1)=kvs.map (·.1)
 | []=>rfl
 |q::r=>by
  unfold zCh
  split
  ·rfl
  ·simp [zBA r]
section
variable {K:Fg} {G H H':Hp} {κ:Type} [DecidableEq κ]
theorem yD.get {k:κ}:∀ {kvs:List (κ×List D)} {ws:List (κ×V)},kvs.map (·.1)=ws.map (·.1)->yD K G H (kvs.map (·.2)) (ws.map (·.2))->(zA5 kvs k=none/\zAv ws k=none)\/∃ xs b us,zA5 kvs k=some xs/\zAv ws k=some (.ref b)/\H b=some (.lst us)/\Reps K G xs us/\b∈zDI ws
 | [],[],_,_=>.inl ⟨rfl,rfl⟩
 | [],_::_,h,_=>by cases h
 |_::_,[],h,_=>by cases h
 |(k1,x)::kvs,(k2,w)::ws,h,r=>by
  simp only [zUc,zVl] at h
  obtain ⟨rfl,h⟩:=h
  simp only [zUc,yD] at r
  obtain ⟨b,us,t,e,e2,r1,r2⟩:=r
  cases e
  by_cases hk:k1=k
  ·right
   refine ⟨x,b,us,?_,?_,e2,r1,qG.mpr (zUd ..)⟩
   ·simp [zA5,hk]
   ·simp [zAv,hk]
  ·rcases yD.get (k:=k) h r2 with ⟨q1,q2⟩|⟨xs,b',us',q1,q2,q3,q4,q5⟩
   ·left
    constructor
    ·simpa [zA5,hk] using q1
    ·simpa [zAv,hk] using q2
   ·right
    refine ⟨xs,b',us',?_,?_,q3,q4,qG.mpr (zUY _ (qG.mp q5))⟩
    ·simpa [zA5,hk] using q1
    ·simpa [zAv,hk] using q2
theorem yD.set {k:κ} {b:Addr} {xs':List D} {us':List V} (hb:H' b=some (.lst us')) (hr:Reps K G xs' us') (hH:∀ p o,p≠b->H p=some o->H' p=some o):∀ {kvs:List (κ×List D)} {ws:List (κ×V)},kvs.map (·.1)=ws.map (·.1)->yD K G H (kvs.map (·.2)) (ws.map (·.2))->(zDI ws).Nodup->zAv ws k=some (.ref b)->yD K G H' ((zCh k xs' kvs).map (·.2)) (ws.map (·.2))
 | [],[],_,_,_,h=>by cases h
 | [],_::_,h,_,_,_=>by cases h
 |_::_,[],h,_,_,_=>by cases h
 |(k1,x)::kvs,(k2,w)::ws,h,r,n,g=>by
  simp only [zUc,zVl] at h
  obtain ⟨rfl,h⟩:=h
  simp only [zUc,yD] at r
  obtain ⟨c,us,t,e,e2,r1,r2⟩:=r
  cases e
  have n':(c::zDI ws).Nodup:=n
  have hn:=zVC.mp n'
  by_cases hk:k1=k
  ·have:c=b:=by
    simp [zAv,hk] at g
    exact g
   subst this
   have es:zCh k xs' ((k1,x)::kvs)=(k1,xs')::kvs:=by simp [zCh,hk]
   rw [es]
   simp only [zUc,yD]
   refine ⟨c,us',_,rfl,hb,hr,r2.same (zi.refl _) λp m o z=>hH p o (λq=>?_) z⟩
   subst q
   exact hn.1 (qG.mpr m)
  ·have g':zAv ws k=some (.ref b):=by simpa [zAv,hk] using g
   have es:zCh k xs' ((k1,x)::kvs)=(k1,x)::zCh k xs' kvs:=by simp [zCh,hk]
   rw [es]
   simp only [zUc,yD]
   have hc:c≠b:=λq=>by
    subst q
    rcases yD.get (k:=k) h r2 with ⟨_,q2⟩|⟨_,b',_,_,q2,_,_,q5⟩
    ·rw [g'] at q2;cases q2
    ·rw [g'] at q2;cases q2;exact hn.1 q5
   exact ⟨c,us,_,rfl,hH c _ hc e2,r1,yD.set hb hr hH h r2 hn.2 g'⟩
theorem yD.snoc {b:Addr} {xs:List D} {us:List V} (hb:H b=some (.lst us)) (hr:Reps K G xs us):∀ {l:List (List D)} {vs:List V},yD K G H l vs->yD K G H (l ++ [xs]) (vs ++ [.ref b])
 | [],_,h=>by simp only [yD] at h;subst h;simp only [zVh,yD];exact ⟨b,us,[],rfl,hb,hr,rfl⟩
 |x::l,_,h=>by
  simp only [yD] at h
  obtain ⟨c,vs',t,rfl,e,r,q⟩:=h
  simp only [zVd,yD]
  exact ⟨c,vs',_,rfl,e,r,yD.snoc hb hr q⟩
end
noncomputable def zHp (C:Addr) (i:Nat) (f:Str) (ρ:Rho):Option (Option Addr×List (Str×Fl)×Fd):=match ρ[i]? with
 |some (.o c (.ins C' fs))=>if C'=C then (match fs.lookup f with
  |some (.f y)=>some (c,fs,y)
  |_=>none) else none
 |_=>none
theorem zEI {C:Addr} {i:Nat} {f:Str} {ρ:Rho} {c:Option Addr} {fs:List (Str×Fl)} {y:Fd} (h:zHp C i f ρ=some (c,fs,y)):ρ[i]?=some (.o c (.ins C fs))/\fs.lookup f=some (.f y):=by
 unfold zHp at h
 split at h
 ·rename_i q
  split at h
  ·rename_i z
   subst z
   split at h
   ·rename_i l
    cases h
    exact ⟨q,l⟩
   ·cases h
  ·cases h
 ·cases h
noncomputable def zEp (C:Addr) (i:Nat) (f:Str) (c:Option Addr) (fs:List (Str×Fl)) (y:Fd) (ρ:Rho):Rho:=ρ.set i (.o c (.ins C (qa f (.f y) fs)))
section
variable {X:Cx} {o a:Expr} {pos apos cpos:Pos} {C:Addr} {f:Str} {fe:ROd}
noncomputable def zOL (C:Addr) (i:Nat) (f:Str) (fe:ROd):ROo:=λρ=>(zHp C i f ρ).bind λq=>match q.2.2 with
 |.l xs=>if xs.length<1000000 then (fe ρ).map λd=>.nx (zEp C i f q.1 q.2.1 (.l (xs ++ [d])) ρ) else none
 |_=>none
theorem zRD (i:Nat) (c:Cls X.K C) (n:qO X.K C f) (ho:PE X o (zBi i)) (ha:SE X a fe) (hb:attributeBase o f X.env (eval o X.env)=eval o X.env:=by rfl) {fpos:Pos}
  (hbase:attributeBase (.Attribute o f fpos) "append" X.env (eval (.Attribute o f fpos) X.env)=eval (.Attribute o f fpos) X.env:=by rfl)
  (hfew:((backTo cpos (starEach [a] X.env)).all (λx=>!x.1) && (backToKw cpos (keywordEach [] X.env)).all (λx=>x.1.isSome)
   && decide ([a].length+([]:List Keyword).length+(if ([]:List Keyword).isEmpty then 0 else 1)<30))=true:=by rfl)
  (hline:(apos.endLine == cpos.line)=true:=by rfl) (hs:starEach [a] X.env=(false,eval a X.env)::starEach [] X.env:=by rfl) (hplain:(backTo cpos (starEach [] X.env)).any (·.1)=false:=by rfl)
  (hsw:swapsWith (.Call (.Attribute (.Attribute o f fpos) "append" apos) [a] [] cpos) none pos.line X.env=pure false:=by rfl) :
  SS X (.Expr (.Call (.Attribute (.Attribute o f fpos) "append" apos) [a] [] cpos) pos) (zOL C i f fe):=
 ym (zBq (zGO zVf zWA zWB zBs (zES ho hb) (yF ha qC hs) hbase hfew hline hs hplain) hsw) λE σ H=>by
  rintro ⟨G0,H0,G,ρ,o,st,ef,k⟩
  obtain ⟨⟨c',fs,y⟩,e1,ef⟩:=zUX.mp ef
  obtain ⟨hu,hl⟩:=zEI e1
  cases y with
  |l xs=>
   simp only at ef
   split at ef
   ·rename_i hlen
    obtain ⟨d,e2,rfl⟩:=zUZ.mp ef
    obtain ⟨a1,dx,ws,b,q1,q2,q3,⟨vs,q4,q5⟩,q6,q7⟩:=st.fldAt hu hl
    refine ⟨_,q1,a1,C,dx,ws,_,rfl,q2,c,n,q3,.inl ⟨rfl,vs,SqL.of q4⟩,G,ρ,d,st.bs.gh,st.er,e2,λv G' H' t r=>?_⟩
    have st':=st.step t
    have hb0:G' b=none:=by
     obtain ⟨a2,dx2,ws2,b2,w1,w2,w3,_,w6,_⟩:=st'.fldAt hu hl
     rw [q1] at w1;cases w1
     rw [t.h _ _ q2] at w2;cases w2
     rw [q3] at w3;cases w3
     exact w6 b (zUf.mpr rfl)
    have q4':=t.h _ _ q4
    refine ⟨b,vs,v,rfl,rfl,q4',zUm (by rw [<- q5.length];exact hlen) (by decide),k σ G' _ (st'.mutF (y':=.l (xs ++ [d])) hu hl q1 (t.h _ _ q2) q3 (λp x e=>?_) (λp x np e=>?_) ⟨_,zM,(Reps.mono t.g _ _ q5).append (Reps.cons r Reps.nil)⟩ (by simp [fpF]) λp m=>?_)⟩
    ·rw [zK (λz=>by rw [z,hb0] at e;cases e)];exact t.s _ _ e
    ·rw [zK (λz=>np (zUf.mpr z))];exact e
    ·cases zUf.mp m;exact ⟨.inl (zUf.mpr rfl),hb0⟩
   ·cases ef
  |_=>cases ef
noncomputable def zRE (C:Addr) (i:Nat) (f:Str) (fi fe:ROd):ROo:=λρ=>(fe ρ).bind λd=>(zHp C i f ρ).bind λq=>match q.2.2 with
 |.l xs=>(fi ρ).bind λdi=>match di with
  |.int n=>(ixN xs.length n).map λj=>.nx (zEp C i f q.1 q.2.1 (.l (xs.set j d)) ρ)
  |_=>none
 |_=>none
theorem zRF {ie:Expr} {fi:ROd} {tpos fpos:Pos} (i:Nat) (c:Cls X.K C) (n:qO X.K C f) (ho:PE X o (zBi i)) (hi:SE X ie fi) (ha:SE X a fe) (hb:attributeBase o f X.env (eval o X.env)=eval o X.env:=by rfl)
  (hg:∀ v,assign (.Subscript (.Attribute o f fpos) ie tpos) X.env v=(do
   let ov <- holding [v] (eval (.Attribute o f fpos) X.env)
   let iv <- holding [v,ov] (eval ie X.env)
   standAt tpos
   holding [v,ov,iv] (setItem ov iv v)
   release [v,ov,iv] []):=by intro _;rfl)
  (hs:swapsWithSole [.Subscript (.Attribute o f fpos) ie tpos] a pos.line X.env=pure false:=by rfl) (hw:swappedStores [.Subscript (.Attribute o f fpos) ie tpos] a X.env=pure none:=by rfl)
  (h1:(assignEach [.Subscript (.Attribute o f fpos) ie tpos] X.env).map (·.2) = [assign (.Subscript (.Attribute o f fpos) ie tpos) X.env]:=by rfl):SS X (.Assign [.Subscript (.Attribute o f fpos) ie tpos] a pos) (zRE C i f fi fe):=
 ym (zLK ha (zPZ (zES ho hb) hi zJT hg) hs hw h1) λE σ H=>by
  rintro ⟨G0,H0,G,ρ,o,st,ef,k⟩
  obtain ⟨d,e1,ef⟩:=zUX.mp ef
  obtain ⟨⟨c',fs,y⟩,e2,ef⟩:=zUX.mp ef
  obtain ⟨hu,hl⟩:=zEI e2
  cases y with
  |l xs=>
   obtain ⟨di,e3,ef⟩:=zUX.mp ef
   cases di with
   |int m=>
    obtain ⟨j,e4,rfl⟩:=zUZ.mp ef
    refine ⟨G,ρ,d,st.bs.gh,st.er,e1,λv G1 H1 t1 r1=>?_⟩
    obtain ⟨a1,dx,ws,b,q1,q2,q3,_,_,_⟩:=(st.step t1).fldAt hu hl
    refine ⟨_,q1,a1,C,dx,ws,_,rfl,q2,c,n,q3,G1,ρ,_,t1.s,st.er.step t1,e3,λv2 G2 H2 t2 r2=>?_⟩
    have st':=(st.step t1).step t2
    obtain ⟨a2,dx2,ws2,b2,w1,w2,w3,⟨vs,w4,w5⟩,w6,_⟩:=st'.fldAt hu hl
    rw [q1] at w1;cases w1
    rw [t2.h _ _ q2] at w2;cases w2
    rw [q3] at w3;cases w3
    have hb0:G2 b=none:=w6 b (zUf.mpr rfl)
    refine ⟨b,vs,m,j,rfl,yC.mp r2,w4,by rw [<- w5.length];exact e4,k σ G2 _ (st'.mutF (y':=.l (xs.set j d)) hu hl q1 (t2.h _ _ q2) q3 (λp x e=>?_) (λp x np e=>?_) ⟨_,zM,w5.set j (Rep.mono t2.g _ _ r1)⟩ (by simp [fpF]) λp mm=>?_)⟩
    ·rw [zK (λz=>by rw [z,hb0] at e;cases e)];exact t2.s _ _ e
    ·rw [zK (λz=>np (zUf.mpr z))];exact e
    ·cases zUf.mp mm;exact ⟨.inl (zUf.mpr rfl),hb0⟩
   |_=>cases ef
  |_=>cases ef
end
noncomputable def rGet (C:Addr) (i:Nat) (f:Str) (fk fd:ROd):ROd:=λρ=>(zFz C i f ρ).bind λfl=>match fl with
 |.f (.tl kvs)=>(fk ρ).bind λkd=>(zMM kd).bind λk=>(fd ρ).map λd=>match zA5 kvs k with
  |some xs=>.lst xs
  |none=>d
 |_=>none
section
variable {X:Cx} {o a ke de:Expr} {pos apos cpos fpos:Pos} {C:Addr} {f:Str} {fe fk fd:ROd}
theorem zRG (i:Nat) (hu:X.A.units+1<cLine) (c:Cls X.K C) (n:qO X.K C f) (ho:PE X o (zBi i)) (hk:SE X ke fk) (hd:SE X de fd) (m:M2 X (.Attribute o f fpos) "get" apos ke de cpos) (hb:attributeBase o f X.env (eval o X.env)=eval o X.env:=by rfl) :
  SR X (.Call (.Attribute (.Attribute o f fpos) "get" apos) [ke,de] [] cpos) (rGet C i f fk fd):=
 zA7 (zNw hu (zES ho hb) hk hd m) λσ H Q=>by
  rintro ⟨G,ρ,d,s,er,ef,k⟩
  obtain ⟨fl,e1,ef⟩:=zUX.mp ef
  obtain ⟨x,e3,e4⟩:=zUX.mp e1
  obtain ⟨a,q1,A⟩:=zCF er e3
  cases fl with
  |v d'=>cases ef
  |f y=>
   cases y with
   |tl kvs=>
    obtain ⟨kd,e5,ef⟩:=zUX.mp ef
    obtain ⟨kk,e6,ef⟩:=zUX.mp ef
    obtain ⟨dd,e7,rfl⟩:=zUZ.mp ef
    obtain ⟨dx,ws,u,w1,w2,⟨b,rfl,vs,z1,z2,z3⟩,w4⟩:=A.fld e4
    refine ⟨_,q1,a,C,dx,ws,_,rfl,w1,c,n,w2,b,rfl,.inr ⟨vs,.inl z1⟩,G,ρ,kd,s,er,e5,λv1 G1 H1 t1 r1=>?_⟩
    refine ⟨G1,ρ,dd,t1.s,er.step t1,e7,λv2 G2 H2 t2 r2=>?_⟩
    obtain ⟨kb,rfl,hkb⟩:=zBS e6 r1
    have tt:=t1.trans t2
    have A2:=A.step tt
    obtain ⟨dx',ws',u',w1',w2',⟨b',e',vs',z1',z2',z3'⟩,w4'⟩:=A2.fld e4
    rw [tt.h _ _ w1] at w1';cases w1'
    rw [w2] at w2';cases w2'
    cases e'
    rw [tt.h _ _ z1] at z1';cases z1'
    refine ⟨zAv vs kk,zDH.t (tt.h _ _ z1) (t2.h _ _ (t1.s _ _ hkb)),?_⟩
    rcases yD.get (k:=kk) z2' z3' with ⟨g1,g2⟩|⟨xs,b',us,g1,g2,g3,g4,g5⟩
    ·rw [g2]
     have:=k v2 G2 H2 tt (.fr (by simp only [g1];exact r2))
     exact this
    ·rw [g2]
     refine k (.ref b') G2 H2 tt ?_
     simp only [g1]
     refine .ow (w4' b' ?_) g3 g4
     simp only [fpL,fpF]
     rw [tt.h _ _ z1]
     exact zUY _ g5
   |_=>cases ef
end
theorem zEq {f:Str} {u v:Fl}:∀ (fs:List (Str×Fl)),qa f v (qa f u fs)=qa f v fs
 | []=>rfl
 |(g,y)::r=>by
  by_cases e:(g == f)=true
  ·simp [qa,e]
  ·have e:(g == f)=false:=by simpa using e
   simp [qa,e,zEq r]
theorem zD2 {f:Str} {y v:Fl}:∀ {fs:List (Str×Fl)},fs.lookup f=some y->(qa f v fs).lookup f=some v
 | [],h=>by cases h
 |(g,z)::r,h=>by
  by_cases e:g=f
  ·subst e;simp [qa]
  ·have e1:(g == f)=false:=zVJ.mpr e
   have e2:(f == g)=false:=zVJ.mpr (Ne.symm e)
   rw [zUy,e2] at h
   simp only [qa,e1,zVN,zVg,zUy,e2]
   exact zD2 h
theorem zGb {κ:Type} [DecidableEq κ] {α:Type} {k:κ} {x y:α}:∀ {kvs:List (κ×α)},zA5 kvs k=none->zCh k y (kvs ++ [(k,x)])=kvs ++ [(k,y)]
 | [],_=>by simp [zCh]
 |q::r,h=>by
  by_cases e:q.1=k
  ·simp [zA5,e] at h
  ·have h':zA5 r k=none:=by simpa [zA5,e] using h
   simp only [zVd,zCh,zVD e,zGb h']
theorem zJh {κ:Type} [DecidableEq κ] {α:Type} {k:κ} {x:α}:∀ {kvs:List (κ×α)},zA5 kvs k=none->zA5 (kvs ++ [(k,x)]) k=some x
 | [],_=>by simp [zA5]
 |q::r,h=>by
  by_cases e:q.1=k
  ·simp [zA5,e] at h
  ·have h':zA5 r k=none:=by simpa [zA5,e] using h
   have:=zJh (x:=x) h'
   simpa [zA5,e] using this
theorem zGc {κ:Type} [DecidableEq κ] {k:κ} {v:V}:∀ {kvs:List (κ×V)},zAv kvs k=none->zAv (kvs ++ [(k,v)]) k=some v
 | [],_=>by simp [zAv]
 |q::r,h=>by
  by_cases e:q.1=k
  ·simp [zAv,e] at h
  ·have h':zAv r k=none:=by simpa [zAv,e] using h
   have:=zGc (v:=v) h'
   simpa [zAv,e] using this
theorem zBx {κ:Type} {ws:List (κ×V)} {k:κ} {p:Addr}:zDI (ws ++ [(k,.ref p)])=zDI ws ++ [p]:=by
 unfold zDI
 rw [List.filterMap_append];rfl
section
variable {X:Cx} {o a ke:Expr} {pos apos cpos fpos:Pos} {C:Addr} {f:Str} {fe fk:ROd}
noncomputable def zMN (C:Addr) (i:Nat) (f:Str) (fk:ROd):ROo:=λρ=>(zHp C i f ρ).bind λq=>match q.2.2 with
 |.tl kvs=>(fk ρ).bind λkd=>(zMM kd).bind λk=>match zA5 kvs k with
  |some (_::xs)=>some (.nx (zEp C i f q.1 q.2.1 (.tl (zCh k xs kvs)) ρ))
  |_=>none
 |_=>none
theorem zRH {kp:Pos} {j} {ipos:Pos} (i:Nat) (hu:X.A.units+1<cLine) (c:Cls X.K C) (n:qO X.K C f) (ho:PE X o (zBi i)) (hk:SE X ke fk) (hsl:zSO ke:=by intro _ _;rfl) (hb:attributeBase o f X.env (eval o X.env)=eval o X.env:=by rfl)
  (hbase:attributeBase (.Subscript (.Attribute o f fpos) ke kp) "pop" X.env (eval (.Subscript (.Attribute o f fpos) ke kp) X.env)=eval (.Subscript (.Attribute o f fpos) ke kp) X.env:=by rfl)
  (hfew:((backTo cpos (starEach [Expr.Constant (.int 0) j ipos] X.env)).all (λx=>!x.1) && (backToKw cpos (keywordEach [] X.env)).all (λx=>x.1.isSome)
   && decide ([Expr.Constant (.int 0) j ipos].length+([]:List Keyword).length+(if ([]:List Keyword).isEmpty then 0 else 1)<30))=true:=by rfl)
  (hline:(apos.endLine == cpos.line)=true:=by rfl) (hs:starEach [Expr.Constant (.int 0) j ipos] X.env=(false,eval (.Constant (.int 0) j ipos) X.env)::starEach [] X.env:=by rfl) (hplain:(backTo cpos (starEach [] X.env)).any (·.1)=false:=by rfl)
  (hsw:swapsWith (.Call (.Attribute (.Subscript (.Attribute o f fpos) ke kp) "pop" apos) [.Constant (.int 0) j ipos] [] cpos) none pos.line X.env=pure false:=by rfl) :
  SS X (.Expr (.Call (.Attribute (.Subscript (.Attribute o f fpos) ke kp) "pop" apos) [.Constant (.int 0) j ipos] [] cpos) pos) (zMN C i f fk):=
 ym (zBq (zGO zVf PySem.F.slot_list_pop PySem.F.type_list_pop zNt (zGR hu (zES ho hb) hk hsl) (yF zPW qC hs) hbase hfew hline hs hplain) hsw) λE σ H=>by
  rintro ⟨G0,H0,G,ρ,o,st,ef,k⟩
  obtain ⟨⟨c',fs,y⟩,e1,ef⟩:=zUX.mp ef
  obtain ⟨hu',hl⟩:=zEI e1
  cases y with
  |tl kvs=>
   obtain ⟨kd,e5,ef⟩:=zUX.mp ef
   obtain ⟨kk,e6,ef⟩:=zUX.mp ef
   cases g0:zA5 kvs kk with
   |none=>rw [g0] at ef;cases ef
   |some l=>
    cases l with
    |nil=>rw [g0] at ef;cases ef
    |cons d xs=>
     rw [g0] at ef
     cases ef
     obtain ⟨a1,dx,ws,b,q1,q2,q3,⟨vs,z1,z2,z3⟩,q6,q7⟩:=st.fldAt hu' hl
     refine ⟨_,q1,a1,C,dx,ws,_,rfl,q2,c,n,q3,G,ρ,kd,st.bs.gh,st.er,e5,λv1 G1 H1 t1 r1=>?_⟩
     obtain ⟨kb,rfl,hkb⟩:=zBS e6 r1
     have st':=st.step t1
     obtain ⟨a2,dx2,ws2,b2,p1,p2,p3,⟨vs',y1,y2,y3⟩,p6,p7⟩:=st'.fldAt hu' hl
     rw [q1] at p1;cases p1
     rw [t1.h _ _ q2] at p2;cases p2
     rw [q3] at p3;cases p3
     rw [t1.h _ _ z1] at y1;cases y1
     have hb1:=t1.h _ _ z1
     rcases yD.get (k:=kk) y2 y3 with ⟨g1,_⟩|⟨xs',b',us,g1,g2,g3,g4,g5⟩
     ·rw [g0] at g1;cases g1
     ·rw [g0] at g1;cases g1
      obtain ⟨v0,us0,rfl,r0,rs⟩:=za.mp g4
      have fpe:fpF H1 (.tl kvs) b=b::zDI vs:=by simp only [fpF];rw [hb1];rfl
      have nd:=zVC.mp (by rw [fpe] at p7;exact p7)
      have hbb:b'≠b:=λz=>nd.1 (by rw [<- z];exact g5)
      have hb0:G1 b'=none:=p6 b' (by rw [fpe];exact zUY _ g5)
      have hbG:G1 b=none:=p6 b (by rw [fpe];exact zUd ..)
      have kb':upd H1 b' (.lst us0) b=some (.dT vs):=by rw [zK (Ne.symm hbb)];exact hb1
      have fpn:fpF (upd H1 b' (.lst us0)) (.tl (zCh kk xs kvs)) b=b::zDI vs:=by simp only [fpF];rw [kb'];rfl
      refine ⟨b,.ref b',rfl,by rw [<- g2];exact zDH.t hb1 (t1.s _ _ hkb),.inl ⟨rfl,_,SqL.of g3⟩,b',v0::us0,0,0,v0,rfl,rfl,g3,by decide,by decide,by simp [seqIndex?],rfl,?_⟩
      show E.nx σ (upd H1 b' (.lst us0))
      refine k σ G1 _ (st'.mutF (y':=.tl (zCh kk xs kvs)) hu' hl q1 (t1.h _ _ q2) q3 (λp x e=>?_) (λp x np e=>?_) ⟨vs,kb',by rw [zBA];exact y2,?_⟩ (by rw [fpn];exact zVC.mpr nd) λp mm=>?_)
      ·rw [zK (λz=>by rw [z,hb0] at e;cases e)];exact t1.s _ _ e
      ·rw [zK (λz=>np (by rw [fpe,z];exact zUY _ g5))];exact e
      ·exact yD.set zM rs (λp x np e=>by rw [zK np];exact e) y2 y3 nd.2 g2
      ·rw [fpn] at mm
       exact ⟨.inl (by rw [fpe];exact mm),p6 p (by rw [fpe];exact mm)⟩
  |_=>cases ef
noncomputable def zMO (C:Addr) (i:Nat) (f:Str) (fk fe:ROd):ROo:=λρ=>(zHp C i f ρ).bind λq=>match q.2.2 with
 |.tl kvs=>(fk ρ).bind λkd=>(zMM kd).bind λk=>match zA5 kvs k with
  |some xs=>if xs.length<1000000 then (fe ρ).map λd=>.nx (zEp C i f q.1 q.2.1 (.tl (zCh k (xs ++ [d]) kvs)) ρ) else none
  |none=>if kvs.length<1000000 then (fe (zEp C i f q.1 q.2.1 (.tl (kvs ++ [(k,[])])) ρ)).map λd=>.nx (zEp C i f q.1 q.2.1 (.tl (kvs ++ [(k,[d])])) ρ) else none
 |_=>none
theorem zRI {sp dp lp:Pos} (i:Nat) (hu:X.A.units+1<cLine) (c:Cls X.K C) (n:qO X.K C f) (ho:PE X o (zBi i)) (hk:SE X ke fk) (ha:SE X a fe) (hb:attributeBase o f X.env (eval o X.env)=eval o X.env:=by rfl)
  (hbase1:attributeBase (.Attribute o f fpos) "setdefault" X.env (eval (.Attribute o f fpos) X.env)=eval (.Attribute o f fpos) X.env:=by rfl)
  (hfew1:((backTo dp (starEach [ke,.List [] lp] X.env)).all (λx=>!x.1) && (backToKw dp (keywordEach [] X.env)).all (λx=>x.1.isSome)
   && decide ([ke,.List [] lp].length+([]:List Keyword).length+(if ([]:List Keyword).isEmpty then 0 else 1)<30))=true:=by rfl)
  (hline1:(sp.endLine == dp.line)=true:=by rfl) (hs1:starEach [ke,.List [] lp] X.env=(false,eval ke X.env)::starEach [.List [] lp] X.env:=by rfl) (hs2:starEach [.List [] lp] X.env=(false,eval (.List [] lp) X.env)::starEach [] X.env:=by rfl) (hplain1:(backTo dp (starEach [.List [] lp] X.env)).any (·.1)=false:=by rfl)
  (hbase:attributeBase (.Call (.Attribute (.Attribute o f fpos) "setdefault" sp) [ke,.List [] lp] [] dp) "append" X.env (eval (.Call (.Attribute (.Attribute o f fpos) "setdefault" sp) [ke,.List [] lp] [] dp) X.env)=eval (.Call (.Attribute (.Attribute o f fpos) "setdefault" sp) [ke,.List [] lp] [] dp) X.env:=by rfl)
  (hfew:((backTo cpos (starEach [a] X.env)).all (λx=>!x.1) && (backToKw cpos (keywordEach [] X.env)).all (λx=>x.1.isSome)
   && decide ([a].length+([]:List Keyword).length+(if ([]:List Keyword).isEmpty then 0 else 1)<30))=true:=by rfl)
  (hline:(apos.endLine == cpos.line)=true:=by rfl) (hs:starEach [a] X.env=(false,eval a X.env)::starEach [] X.env:=by rfl) (hplain:(backTo cpos (starEach [] X.env)).any (·.1)=false:=by rfl)
  (hsw:swapsWith (.Call (.Attribute (.Call (.Attribute (.Attribute o f fpos) "setdefault" sp) [ke,.List [] lp] [] dp) "append" apos) [a] [] cpos) none pos.line X.env=pure false:=by rfl) :
  SS X (.Expr (.Call (.Attribute (.Call (.Attribute (.Attribute o f fpos) "setdefault" sp) [ke,.List [] lp] [] dp) "append" apos) [a] [] cpos) pos) (zMO C i f fk fe):=
 ym (zBq (zGO zVf zWA zWB zBs
     (zGO zWd zVb PySem.F.type_dict_setdefault (zC3 hu) (zES ho hb) (yF hk (yF (zLT qC) qC hs2) hs1) hbase1 hfew1 hline1 hs1 hplain1) (yF ha qC hs) hbase hfew hline hs hplain) hsw) λE σ H=>by
  rintro ⟨G0,H0,G,ρ,o,st,ef,k⟩
  obtain ⟨⟨c',fs,y⟩,e1,ef⟩:=zUX.mp ef
  obtain ⟨hu',hl⟩:=zEI e1
  cases y with
  |tl kvs=>
   obtain ⟨kd,e5,ef⟩:=zUX.mp ef
   obtain ⟨kk,e6,ef⟩:=zUX.mp ef
   obtain ⟨a1,dx,ws,b,q1,q2,q3,⟨vs,z1,z2,z3⟩,q6,q7⟩:=st.fldAt hu' hl
   refine ⟨_,q1,a1,C,dx,ws,_,rfl,q2,c,n,q3,.inr (.inr (.inl ⟨rfl,.inr ⟨vs,z1⟩⟩)),G,ρ,kd,st.bs.gh,st.er,e5,λv1 G1 H1 t1 r1=>?_⟩
   obtain ⟨kb,rfl,hkb⟩:=zBS e6 r1
   have st1:=st.step t1
   obtain ⟨a2,dx2,ws2,b2,p1,p2,p3,⟨vs',y1,y2,y3⟩,p6,p7⟩:=st1.fldAt hu' hl
   rw [q1] at p1;cases p1
   rw [t1.h _ _ q2] at p2;cases p2
   rw [q3] at p3;cases p3
   rw [t1.h _ _ z1] at y1;cases y1
   have hb1:=t1.h _ _ z1
   refine ⟨zV7 _,λp hp=>?_⟩
   have t2:zd G1 H1 G1 (upd H1 p (.lst [])):=zd.newH t1.s hp
   have st2:=st1.step t2
   have hb2:=t2.h _ _ hb1
   have hkb2:upd H1 p (.lst []) kb=some (.tup (kk.map kV)):=t2.h _ _ (t1.s _ _ hkb)
   have fpe:∀ {H':Hp} {l:List (List Key×List D)},H' b=some (.dT vs)->fpF H' (.tl l) b=b::zDI vs:=λ{H' l} e=>by simp only [fpF];rw [e];rfl
   have nd:=zVC.mp (by rw [fpe hb1] at p7;exact p7)
   have frE:∀ q∈b::zDI vs,G1 q=none:=by rw [fpe hb1] at p6;exact p6
   have hpb:p≠b:=λz=>by rw [z,hb1] at hp;cases hp
   cases g0:zA5 kvs kk with
   |some xs=>
    rw [g0] at ef
    simp only at ef
    split at ef
    ·rename_i hlen
     obtain ⟨d,e7,rfl⟩:=zUZ.mp ef
     rcases yD.get (k:=kk) y2 y3 with ⟨g1,_⟩|⟨xs',b',us,g1,g2,g3,g4,g5⟩
     ·rw [g0] at g1;cases g1
     ·rw [g0] at g1;cases g1
      have hbb:b'≠b:=λz=>nd.1 (by rw [<- z];exact g5)
      refine ⟨b,.ref kb,.ref p,rfl,rfl,.inl ⟨.ref b',by rw [<- g2];exact zDH.t hb2 hkb2,.inr ⟨vs,hb2⟩,.inl ⟨rfl,us,SqL.of (t2.h _ _ g3)⟩,G1,ρ,d,t2.s,st2.er,e7,λv G3 H3 t3 r3=>?_⟩⟩
      have st3:=st2.step t3
      have g3':=t3.h _ _ (t2.h _ _ g3)
      have hb3:=t3.h _ _ hb2
      have fr3:∀ q∈b::zDI vs,G3 q=none:=by
       obtain ⟨a4,dx4,ws4,b4,w1,w2,w3,_,w6,_⟩:=st3.fldAt hu' hl
       rw [q1] at w1;cases w1
       rw [t3.h _ _ (t2.h _ _ (t1.h _ _ q2))] at w2;cases w2
       rw [q3] at w3;cases w3
       rw [fpe hb3] at w6;exact w6
      have y3':=y3.same (H':=H3) (t2.trans t3).g λq _ o z=>(t2.trans t3).h _ _ z
      have kb':upd H3 b' (.lst (us ++ [v])) b=some (.dT vs):=by rw [zK (Ne.symm hbb)];exact hb3
      refine ⟨b',us,v,rfl,rfl,g3',zUm (by rw [<- g4.length];exact hlen) (by decide),k σ G3 _ (st3.mutF (y':=.tl (zCh kk (xs ++ [d]) kvs)) hu' hl q1 (t3.h _ _ (t2.h _ _ (t1.h _ _ q2))) q3 (λq x e=>?_) (λq x np e=>?_) ⟨vs,kb',by rw [zBA];exact y2,?_⟩ (by rw [fpe kb'];exact zVC.mpr nd) λq mm=>?_)⟩
      ·rw [zK (λz=>by rw [z,fr3 b' (zUY _ g5)] at e;cases e)];exact t3.s _ _ e
      ·rw [zK (λz=>np (by rw [fpe hb3,z];exact zUY _ g5))];exact e
      ·exact yD.set zM ((Reps.mono (t2.trans t3).g _ _ g4).append (Reps.cons r3 Reps.nil)) (λq x np e=>by rw [zK np];exact e) y2 y3' nd.2 g2
      ·rw [fpe kb'] at mm
       exact ⟨.inl (by rw [fpe hb3];exact mm),fr3 q mm⟩
    ·cases ef
   |none=>
    rw [g0] at ef
    simp only at ef
    split at ef
    ·rename_i hlen
     obtain ⟨d,e7,rfl⟩:=zUZ.mp ef
     have hv:zAv vs kk=none:=by
      rcases yD.get (k:=kk) y2 y3 with ⟨_,g2⟩|⟨xs',b',us,g1,_⟩
      ·exact g2
      ·rw [g0] at g1;cases g1
     have hlv:vs.length<sizeLine:=by
      have:=zVX List.length y2
      simp only [zUi] at this
      rw [<- this];exact zUm hlen (by decide)
     have hput:zCN vs kk (.ref p)=vs ++ [(kk,.ref p)]:=zJU _ hv
     refine ⟨b,.ref kb,.ref p,rfl,rfl,.inr ⟨by rw [<- hv];exact zDH.t hb2 hkb2,_,zLc.t hb2 hkb2 hlv,?_⟩⟩
     rw [hput]
     have hbn:upd (upd H1 p (.lst [])) b (.dT (vs ++ [(kk,.ref p)])) b=some (.dT (vs ++ [(kk,.ref p)])):=zM
     have hpn:upd (upd H1 p (.lst [])) b (.dT (vs ++ [(kk,.ref p)])) p=some (.lst []):=by rw [zK hpb,zM]
     have fpn:∀ {H':Hp} {l:List (List Key×List D)},H' b=some (.dT (vs ++ [(kk,.ref p)]))->fpF H' (.tl l) b=b::(zDI vs ++ [p]):=λ{H' l} e=>by simp only [fpF];rw [e];simp only [inK];rw [zBx]
     have gp:G1 p=none:=t1.s.free hp
     have pni:p∉zDI vs:=λm=>by
      obtain ⟨o,e⟩:=y3.there p (qG.mp m);rw [hp] at e;cases e
     have ndn:(b::(zDI vs ++ [p])).Nodup:=by
      rw [zVC,zVS]
      refine ⟨λm=>?_,nd.2,by simp,λx hx y hy=>?_⟩
      ·rcases zUj.mp m with m|m
       ·exact nd.1 m
       ·exact hpb (zUf.mp m).symm
      ·cases zUf.mp hy
       intro z;subst z;exact pni hx
     have st3:=st1.mutF (H':=upd (upd H1 p (.lst [])) b (.dT (vs ++ [(kk,.ref p)]))) (y':=.tl (kvs ++ [(kk,[])])) hu' hl q1 (t1.h _ _ q2) q3
      (λq x e=>by
       rw [zK (λz=>by rw [z,frE b (zUd ..)] at e;cases e),zK (λz=>by rw [z,gp] at e;cases e)];exact t1.s _ _ e)
      (λq x np e=>by
       rw [zK (λz=>np (by rw [fpe hb1,z];exact zUd ..)),zK (λz=>by rw [z,hp] at e;cases e)];exact e)
      ⟨_,hbn,by simp [y2],by
       rw [zUw,zUw]
       refine yD.snoc hpn Reps.nil (y3.same (zi.refl _) λq m o z=>?_)
       rw [zK (λzz=>nd.1 (by rw [<- zz];exact qG.mpr m)),zK (λzz=>by rw [zz,hp] at z;cases z)];exact z⟩
      (by rw [fpn hbn];exact ndn)
      (λq mm=>by
       rw [fpn hbn] at mm
       rcases zUg.mp mm with z|mm
       ·subst z;exact ⟨.inl (by rw [fpe hb1];exact zUd ..),frE _ (zUd ..)⟩
       ·rcases zUj.mp mm with mm|mm
        ·exact ⟨.inl (by rw [fpe hb1];exact zUY _ mm),frE _ (zUY _ mm)⟩
        ·cases zUf.mp mm;exact ⟨.inr hp,gp⟩)
     have hil:i<ρ.length:=(zUs.mp hu').1
     have hu3:(ρ.set i (.o c' (.ins C (qa f (.f (.tl (kvs ++ [(kk,[])]))) fs))))[i]?=some (.o c' (.ins C (qa f (.f (.tl (kvs ++ [(kk,[])]))) fs))):=zVG hil
     have hl3:=zD2 (v:=.f (.tl (kvs ++ [(kk,[])]))) hl
     have q23:upd (upd H1 p (.lst [])) b (.dT (vs ++ [(kk,.ref p)])) a1=some (.ins C dx ws):=by
      have e:=t1.h _ _ q2
      rw [zK (λz=>by rw [z,hb1] at e;cases e),zK (λz=>by rw [z,hp] at e;cases e)];exact e
     refine ⟨.inl ⟨rfl,[],SqL.of hpn⟩,G1,_,d,st3.bs.gh,st3.er,e7,λv G4 H4 t4 r4=>?_⟩
     have st4:=st3.step t4
     have hb4:=t4.h _ _ hbn
     obtain ⟨a5,dx5,ws5,b5,w1,w2,w3,⟨vs5,x1,x2,x3⟩,w6,w7⟩:=st4.fldAt hu3 hl3
     rw [q1] at w1;cases w1
     rw [t4.h _ _ q23] at w2;cases w2
     rw [q3] at w3;cases w3
     rw [hb4] at x1;cases x1
     rw [fpn hb4] at w6
     have kb':upd H4 p (.lst ([] ++ [v])) b=some (.dT (vs ++ [(kk,.ref p)])):=by rw [zK (Ne.symm hpb)];exact hb4
     have gn:=zJh (x:=([]:List D)) g0
     have gv:zAv (vs ++ [(kk,V.ref p)]) kk=some (.ref p):=by
      rcases yD.get (k:=kk) x2 x3 with ⟨g1,_⟩|⟨xs',b',us,g1,g2,g3,g4,g5⟩
      ·rw [gn] at g1;cases g1
      ·rw [g2]
       have:=zGc (v:=V.ref p) hv
       rw [this] at g2;cases g2;rfl
     refine ⟨p,[],v,rfl,rfl,t4.h _ _ hpn,by decide,?_⟩
     have fin:=st4.mutF (H':=upd H4 p (.lst ([] ++ [v]))) (y':=.tl (zCh kk [d] (kvs ++ [(kk,[])]))) hu3 hl3 q1 (t4.h _ _ q23) q3
      (λq x e=>by rw [zK (λz=>by rw [z,w6 p (by simp)] at e;cases e)];exact t4.s _ _ e)
      (λq x np e=>by rw [zK (λz=>np (by rw [fpn hb4,z];simp))];exact e)
      ⟨_,kb',by rw [zBA];exact x2,yD.set zM (Reps.cons r4 Reps.nil) (λq x np e=>by rw [zK np];exact e) x2 x3 (by rw [zBx];exact (zVC.mp ndn).2) gv⟩
      (by rw [fpn kb'];exact ndn)
      (λq mm=>by rw [fpn kb'] at mm;exact ⟨.inl (by rw [fpn hb4];exact mm),w6 q mm⟩)
     rw [zGb g0,List.set_set,zEq] at fin
     exact k σ G4 _ fin
    ·cases ef
  |_=>cases ef
end
structure Chg (K:Fg) (G H G' H':Hp) (x x':Ob) (a:Addr):Prop where
 g:zi G G'
 gh:zi G' H'
 fr:∀ b o,G' b=some o->G b=none->H b=none\/b∈fpO H x a
 h:∀ b o,H b=some o->b∉fpO H x a->H' b=some o
 at_:At K G' H' x' a
 new:∀ c∈fpO H' x' a,c∈fpO H x a\/H c=none
noncomputable def spM (K:Fg) (f:Ob->List D->Option Ob) (n:Nat):Sp:=λvs H Q _=>∃ G x a ds ws x',vs = .ref a::ws/\zi G H/\At K G H x a/\Reps K G ds ws/\ds.length+1=n/\f x ds=some x'/\∀ G' H',Chg K G H G' H' x x' a->Q .non H'
noncomputable def zD3 (a:Addr) (ρ:Rho):Option Ob:=match (ρ[(0:Nat)]?:Option Sl) with
 |some (.o c y)=>if c=some a then some y else none
 |_=>none
noncomputable def runM (N:List Str) (F:ROo) (a:Addr) (x:Ob) (ds:List D):Option Ob:=(F ((.o (some a) x::ds.map Sl.v)++List.replicate (N.length-(ds.length+1)) .un)).bind λo=>match o with
 |.nx ρ=>zD3 a ρ
 |_=>none
section
variable {K:Fg} {G H:Hp} {a:Addr} {x:Ob} {ds:List D} {ws:List V} {m:Nat} {τ:L2.St}
theorem zOM {i:Nat} {u:Sl} (h:((Sl.o (some a) x::ds.map Sl.v)++List.replicate m Sl.un)[i]?=some u) (o:u.isOwn=true):i=0/\u = .o (some a) x:=by
 cases i with
 |zero=>simp at h;exact ⟨rfl,h.symm⟩
 |succ i=>
  exfalso
  have hm:u∈(ds.map Sl.v++List.replicate m Sl.un):=by
   have:((Sl.o (some a) x::ds.map Sl.v)++List.replicate m Sl.un)[i+1]?=(ds.map Sl.v++List.replicate m Sl.un)[i]?:=by simp
   rw [this] at h
   exact zU3 h
  rcases zUj.mp hm with q|q
  ·obtain ⟨d',_,rfl⟩:=zVA.mp q;cases o
  ·rw [(zWH.mp q).2] at o;cases o
theorem zEr {b:Addr} (hσ:((V.ref a::ws).map some++τ)[0]?=some (some (.ref a))):(b∈fpO H x a->qt H ((Sl.o (some a) x::ds.map Sl.v)++List.replicate m Sl.un) ((V.ref a::ws).map some++τ) b=none) /\
  (b∉fpO H x a->qt H ((Sl.o (some a) x::ds.map Sl.v)++List.replicate m Sl.un) ((V.ref a::ws).map some++τ) b=H b):=by
 refine ⟨λh=>zDV (i:=0) (s:=.o (some a) x) (a:=a) (by simp) rfl hσ h,λh=>?_⟩
 unfold qt
 rw [zVD]
 rintro ⟨i,s,c,h1,h2,h3,h4⟩
 obtain ⟨rfl,rfl⟩:=zOM h1 h2
 rw [hσ] at h3
 cases h3
 exact h h4
end
theorem zPv {P:Program} {w:World} {K:Fg} {mg:MGt} {base:Heap} {x qual:Str} {st:Stmt} {fa:Addr} {fd:FuncData} {N ps:List Str} {k:Nat} {F:ROo} {f:Ob->List D->Option Ob}
  (FF:Fun K x qual st fa fd) (S:zT N ps (zH st))
  (hbody:∀ (cdv:Value) (A:Around) (outer:List Env) (s:Shared) (H:Hp),zAO k (A.deeper (envOfC qual (zH st) s.heap.objs.size fa cdv))->SSs (zGM CX0 P w K mg base N qual (zH st) fa cdv A outer s H E0).nox (yE st) F)
  (hf:∀ a y ds y',ds.length+1=ps.length->f y ds=some y'->runM N F a y ds=some y'):zCb P w K mg base CX0 (k+1) fa fd ps (spM K f ps.length):=by
 refine FF.ok S (λvs H Q E h=>?_) (λcdv A outer s H vs Q E hr h=>?_)
 ·obtain ⟨G,y,a,ds,ws,y',rfl,_,_,r,hn,_⟩:=h
  rw [zUa,<- r.length,hn]
 ·obtain ⟨G,y,a,ds,ws,y',rfl,sm,hA,r,hn,ef,kk⟩:=h
  have h1:SSs (zGM CX0 P w K mg base N qual (zH st) fa cdv A outer s H E).nox (yE st) F:=hbody cdv A outer s H hr
  refine ⟨_,h1,?_⟩
  obtain ⟨o,e1,e2⟩:=zUX.mp (hf a y ds y' hn ef)
  have er0:Er K G H (.o (some a) y::ds.map Sl.v) ((V.ref a::ws).map some):=zGa rfl ⟨⟨hA.rep,hA.nd⟩,λc' e=>by cases e;rfl⟩ hA.fr r
  have er:=er0.app (N.length-(ds.length+1)) (List.replicate (N.length-(ds.length+1)) none) (by simp)
  have es:L2.zBj N (.ref a::ws)=(V.ref a::ws).map some++List.replicate (N.length-(ds.length+1)) none:=by rw [zC2,zUa,<- r.length]
  have hσ:((V.ref a::ws).map some++List.replicate (N.length-(ds.length+1)) none)[0]?=some (some (.ref a)):=by simp
  have no:=λb=>zEr (H:=H) (x:=y) (ds:=ds) (m:=N.length-(ds.length+1)) (b:=b) hσ
  rw [es]
  refine ⟨G,qt H _ _,G,_,o,er.toSt sm,e1,?_⟩
  cases o with
  |nx ρ=>
   have e2:zD3 a ρ=some y':=e2
   unfold zD3 at e2
   split at e2
   ·rename_i c y1 q0
    split at e2
    ·rename_i hc
     cases e2
     subst hc
     intro σ' G' H' st'
     obtain ⟨a',g1,g2,g3⟩:=st'.er.slot 0 _ q0 rfl
     have:a'=a:=g2.2 a rfl
     subst this
     refine kk G' H' ⟨st'.bs.gg,st'.bs.gh,λb o e n=>?_,λb o e n=>st'.bs.hh b o (by rw [(no b).2 n];exact e),⟨g2.1.1,g2.1.2,g3⟩,λc m=>?_⟩
     ·have z:=st'.bs.fr b o e n
      by_cases hb:b∈fpO H y a'
      ·exact .inr hb
      ·rw [(no b).2 hb] at z;exact .inl z
     ·have z:=st'.ows 0 _ a' q0 rfl g1 c m
      by_cases hb:c∈fpO H y a'
      ·exact .inl hb
      ·rw [(no c).2 hb] at z;exact .inr z
    ·cases e2
   ·cases e2
  |rt d=>cases e2
  |bk ρ=>cases e2
  |ct ρ=>cases e2
  |ro ρ=>cases e2
  |rm d ρ=>cases e2
structure zSR (P:Program) (w:World) (K:Fg) (mg:MGt) (base:Heap) (C:Addr) (k:Nat) (m:Str) (n:Nat) (F:Ob->List D->Option Ob):Prop where
 ex:∃ f fd ps,zCb P w K mg base CX0 k f fd ps (spM K F n)/\zQS K C m f/\L2.zAu K fd ps []
noncomputable def zFX (C:Addr) (m:Str) (i:Nat) (fl:ROl) (F:Ob->List D->Option Ob):ROo:=λρ=>match ρ[i]? with
 |some (.o c x)=>if zBQ C m x=true then (fl ρ).bind λds=>(F x ds).map λx'=>.nx (ρ.set i (.o c x')) else none
 |_=>none
section
variable {X:Cx} {o e a b:Expr} {es:List Expr} {pos pos' apos p1 p2:Pos} {C:Addr} {m:Str} {i k n:Nat} {F:Ob->List D->Option Ob} {fl:ROl} {f g:ROd}
theorem zGd {pl:Sem Bool} (i:Nat) (h:zSR X.prog X.w X.K X.mg X.base C k m n F) (c:Cls X.K C) (hr:zAO k X.A) (ho:PE X o (zBi i)) (ha:SA X (e::es) fl) (hn:(e::es).length+1=n)
  (hst:starEach (e::es) X.env=(false,eval e X.env)::starEach es X.env:=by rfl) (hpl:(backTo pos (starEach es X.env)).any (·.1)=false:=by rfl)
  (hsw:swapsWith (.Call (.Attribute o m apos) (e::es) [] pos) none pos'.line X.env=pure false:=by rfl)
  (ht:eval (.Call (.Attribute o m apos) (e::es) [] pos) X.env=(do
   let ov <- eval o X.env
   standAt apos.atName
   let (f,first) <- holding [ov] (getMethod ov m pl)
   callWith pos f first (backTo pos (starEach (e::es) X.env)) (backToKw pos (keywordEach [] X.env))):=by rfl) :
  SS X (.Expr (.Call (.Attribute o m apos) (e::es) [] pos) pos') (zFX C m i fl F):=by
 obtain ⟨f,fd,ps,FO,hm,hb⟩:=h.ex
 refine ym (zBq (zIX (pl:=pl) (dvs:=[]) (ds:=[]) (E:=E0) ho c hm FO hr hb .nil zKX ha.pa hst hpl ht) hsw) λE σ H zz=>?_
 obtain ⟨G0,H0,G,ρ,out,st,ef,kk⟩:=zz
 unfold zFX at ef
 split at ef
 ·rename_i c' x q0
  split at ef
  ·rename_i hx
   obtain ⟨ds,e2,ef⟩:=zUX.mp ef
   obtain ⟨x',e3,rfl⟩:=zUZ.mp ef
   obtain ⟨a,q1,r1,r2⟩:=st.er.slot i _ q0 rfl
   have A:At X.K G H x a:=⟨r1.1.1,r1.1.2,r2⟩
   obtain ⟨dx,ws,q2,q3⟩:=zJg A hx
   refine ⟨_,q1,a,dx,ws,rfl,q2,q3,G,ρ,ds,st.bs.gh,st.er,e2,λvs G1 H1 t r=>?_⟩
   show spM X.K F n (V.ref a::(vs ++ [])) H1 _ E0
   rw [zVP]
   refine ⟨G1,x,a,ds,vs,x',rfl,t.s,A.step t,r,by rw [ha.len _ _ e2];exact hn,e3,λG2 H2 ch=>?_⟩
   have st':=st.step t
   exact kk σ G2 H2 (st'.mutG q0 rfl (w:=.o c' x') rfl q1 ch.g ch.gh ch.fr ch.h ⟨⟨ch.at_.rep,ch.at_.nd⟩,r1.2⟩ λp mm=>⟨ch.new p mm,ch.at_.fr p mm⟩)
  ·cases ef
 ·cases ef
noncomputable def dIx (f g:ROd):ROd:=λρ=>(f ρ).bind λx=>(zKe x).bind λkvs=>(g ρ).bind λy=>(zFq y).bind λk=>zDa kvs k
theorem zMP (hu:X.A.units+1<cLine) (hg:Gl X "dict") (hm:X.mg "dict" = none) (ha:SE X a f) (hb:SE X b g) (hcalm:X.calm=true:=by rfl)
  (hs1:starEach [a] X.env=(false,eval a X.env)::starEach [] X.env:=by rfl) (hpl:(backTo p1 (starEach [] X.env)).any (·.1)=false:=by rfl) (hs:zSO b:=by intro _ _;rfl) :
  SE X (.Subscript (.Call (.Name "dict" p2) [a] [] p1) b pos) (dIx f g):=
 zA7 (zGR hu (zET (zKf hcalm) hg hm zTR (yF (zE ha) qC hs1) (by decide) (by decide) hs1 hpl) hb hs) λσ H Q=>by
  rintro ⟨G,ρ,d,sm,er,ef,k⟩
  obtain ⟨x,e1,ef⟩:=zUX.mp ef
  obtain ⟨kvs,e2,ef⟩:=zUX.mp ef
  obtain ⟨y,e3,ef⟩:=zUX.mp ef
  obtain ⟨key,e4,e5⟩:=zUX.mp ef
  refine ⟨G,ρ,x,sm,er,e1,λv1 G1 H1 t1 r1=>⟨G1,x,kvs,v1,rfl,t1.s,r1,e2,λa ws G2 H2 t2 h1 h2 h3 rk=>?_⟩⟩
  have tt:=t1.trans t2
  refine ⟨G2,ρ,y,t2.s,er.step tt,e3,λv3 G3 H3 t3 r3=>?_⟩
  have ev:=zBw e4 r3
  rcases (rk.mono t3.g).get (k:=key) with ⟨z,_⟩|⟨d',v,z1,z2,z3⟩
  ·rw [z] at e5;cases e5
  ·rw [e5] at z1;cases z1
   refine ⟨a,v,rfl,?_,k v G3 H3 (tt.trans t3) z3⟩
   rw [ev,<- z2]
   exact zDH.k (t3.h _ _ h3)
end
section
variable {X:Cx} {e:Expr} {es:List Expr} {pos p cpos:Pos} {fl:ROl}
noncomputable def zON (i:Nat):ROo:=λρ=>(ρ[i]?).bind λs=>if s.isOwn=true then some (.ro s) else none
theorem zMQ (i:Nat) (he:PE X e (zBi i)):SS X (.Return (some e) pos) (zON i):=ym (zJO he) λQ σ H=>by
 rintro ⟨G0,H0,G,ρ,o,st,ef,k⟩
 obtain ⟨s,e1,ef⟩:=zUX.mp ef
 split at ef
 ·rename_i ho
  cases ef
  obtain ⟨a,q1,q2,q3⟩:=st.er.slot i s e1 (Sl.obj_of_own ho)
  exact ⟨_,q1,k a G H st.bs q2 λc m=>⟨q3 c m,st.ows i s a e1 ho q1 c m⟩⟩
 ·cases ef
end
def RetS (K:Fg) (G' H' H:Hp) (s:Sl) (v:V):Prop:=(∃ d,s = .v d/\Rep K G' d v)\/(s.isOwn=true/\∃ a,v = .ref a/\zJX K G' H' s a/\∀ c∈fpS H' s a,H c=none/\G' c=none)
theorem StR.setRet {K:Fg} {G0 H0 G H G' H':Hp} {ρ:Rho} {σ:L2.St} {i:Nat} {s:Sl} {v:V} (st:StR K G0 H0 G H ρ σ) (t:zd G H G' H') (r:RetS K G' H' H s v):StR K G0 H0 G' H' (ρ.set i s) (σ.set i (some v)):=by
 rcases r with ⟨d,rfl,r⟩|⟨ho,a,rfl,r,n⟩
 ·exact (st.step t).setV r
 ·exact st.setNew t ho r n
noncomputable def spR (K:Fg) (f:List D->Option Sl) (n:Nat):Sp:=λvs H Q _=>∃ G ds s,zi G H/\Reps K G ds vs/\ds.length=n/\f ds=some s/\∀ v G' H',zd G H G' H'->RetS K G' H' H s v->Q v H'
noncomputable def zRJ:Out->Option Sl
 |.rt d=>some (.v d)
 |.ro s=>if s.isOwn=true then some s else none
 |.nx _=>some (.v .non)
 |_=>none
noncomputable def zSS (N:List Str) (F:ROo) (ds:List D):Option Sl:=(F (ds.map Sl.v++List.replicate (N.length-ds.length) .un)).bind zRJ
theorem zMR {N:List Str} {ds:List D} {i:Nat} {u:Sl} (h:(ds.map Sl.v++List.replicate (N.length-ds.length) Sl.un)[i]?=some u) (o:u.isOwn=true):False:=by
 rcases zUj.mp (zU3 h) with q|q
 ·obtain ⟨d',_,rfl⟩:=zVA.mp q;cases o
 ·rw [(zWH.mp q).2] at o;cases o
theorem zMS {P:Program} {w:World} {K:Fg} {mg:MGt} {base:Heap} {x qual:Str} {st:Stmt} {fa:Addr} {fd:FuncData} {N ps:List Str} {k:Nat} {F:ROo} {f:List D->Option Sl}
  (FF:Fun K x qual st fa fd) (S:zT N ps (zH st))
  (hbody:∀ (cdv:Value) (A:Around) (outer:List Env) (s:Shared) (H:Hp),zAO k (A.deeper (envOfC qual (zH st) s.heap.objs.size fa cdv))->SSs (zGM CX0 P w K mg base N qual (zH st) fa cdv A outer s H E0).nox (yE st) F)
  (hf:∀ ds d,ds.length=ps.length->f ds=some d->zSS N F ds=some d):zCb P w K mg base CX0 (k+1) fa fd ps (spR K f ps.length):=by
 refine FF.ok S (λvs H Q E h=>?_) (λcdv A outer s H vs Q E hr h=>?_)
 ·obtain ⟨G,ds,d,_,r,hn,_⟩:=h
  rw [<- r.length,hn]
 ·obtain ⟨G,ds,d,sm,r,hn,ef,kk⟩:=h
  have h1:SSs (zGM CX0 P w K mg base N qual (zH st) fa cdv A outer s H E).nox (yE st) F:=hbody cdv A outer s H hr
  refine ⟨_,h1,?_⟩
  obtain ⟨o,e1,e2⟩:=zUX.mp (hf ds d hn ef)
  have er:=zGU (N:=N) (H:=H) r
  refine ⟨G,H,G,_,o,⟨er,⟨sm,zi.refl _,zi.refl _,λb o e n=>by rw [e] at n;cases n⟩,λi u a h1 h2 h3=>(zMR h1 h2).elim⟩,e1,?_⟩
  cases o with
  |rt d'=>
   cases e2
   exact λv G' H' b r'=>kk v G' H' ⟨b.gg,b.hh,b.gh,b.fr⟩ (.inl ⟨_,rfl,r'⟩)
  |nx ρ=>
   cases e2
   exact λσ' G' H' st'=>kk .non G' H' ⟨st'.bs.gg,st'.bs.hh,st'.bs.gh,st'.bs.fr⟩ (.inl ⟨_,rfl,zAQ.mpr rfl⟩)
  |ro s'=>
   simp only [zRJ] at e2
   split at e2
   ·rename_i ho
    cases e2
    exact λa G' H' b r' n=>kk _ G' H' ⟨b.gg,b.hh,b.gh,b.fr⟩ (.inr ⟨ho,a,rfl,r',λc m=>⟨(n c m).2,(n c m).1⟩⟩)
   ·cases e2
  |bk ρ=>cases e2
  |ct ρ=>cases e2
  |rm d ρ=>cases e2
structure zRK (P:Program) (w:World) (K:Fg) (mg:MGt) (base:Heap) (k:Nat) (x:Str) (n:Nat) (F:List D->Option Sl):Prop where
 ex:∃ f fd ps,zCb P w K mg base CX0 k f fd ps (spR K F n)/\mg x=some (.ref f)/\PySem.W.keepIn K (.ref f)=true/\L2.zAu K fd ps []
section
variable {X:Cx} {e:Expr} {es:List Expr} {pos p cpos:Pos} {fl:ROl} {k n:Nat} {F:List D->Option Sl} {x y:Str}
noncomputable def zEs (i:Nat) (fl:ROl) (F:List D->Option Sl):ROo:=λρ=>(fl ρ).bind λds=>(F ds).map λs=>.nx (ρ.set i s)
theorem zIj (i:Nat) {pos':Pos} (h:zRK X.prog X.w X.K X.mg X.base k x n F) (hr:zAO k X.A) (hg:X.env.kindOf x=some .globalImplicit) (hn:(e::es).length=n) (ha:SA X (e::es) fl) (hN:X.N.Nodup) (hi:X.N[i]?=some y) (hy:Loc X.env.scope y)
  (hs:swapsWith (.Call (.Name x p) (e::es) [] cpos) (some (.Name y pos')) pos.line X.env=pure false:=by rfl)
  (hf:X.fn y=true\/X.env.scope.names.lookup y=some .local:=by first|exact .inl rfl|exact .inr rfl|assumption) (hdb:(x == ("__debug__" : Str))=false:=by decide)
  (he:starEach (e::es) X.env=(false,eval e X.env)::starEach es X.env:=by rfl) (hpl:(backTo cpos (starEach es X.env)).any (·.1)=false:=by rfl) :
  SS X (.Assign [.Name y pos'] (.Call (.Name x p) (e::es) [] cpos) pos) (zEs i fl F):=by
 obtain ⟨f,fd,ps,FO,hm,hk,hb⟩:=h.ex
 refine ym (zDw hN hi hy (zGL (E:=E0) FO hr hg hm hk hb .nil zKX ha.pa hdb he hpl) hs hf) λE σ H zz=>?_
 obtain ⟨G0,H0,G,ρ,o,st,ef,kk⟩:=zz
 obtain ⟨ds,e1,ef⟩:=zUX.mp ef
 obtain ⟨s,e2,rfl⟩:=zUZ.mp ef
 refine ⟨G,ρ,ds,st.bs.gh,st.er,e1,λvs G1 H1 t1 r1=>?_⟩
 show spR X.K F n (vs ++ []) H1 _ E0
 rw [zVP]
 exact ⟨G1,ds,s,t1.s,r1,by rw [ha.len _ _ e1,hn],e2,λv G' H' t r=>kk _ G' H' ((st.step t1).setRet t r)⟩
end
noncomputable def zRL {κ:Type} [DecidableEq κ] {α:Type} (kvs:List (κ×α)) (k:κ) (v:α):List (κ×α):=if (kvs.any λkv=>decide (kv.1=k))=true then kvs.map (λkv=>if kv.1=k then (kv.1,v) else kv) else kvs ++ [(k,v)]
section
variable {K:Fg} {G H:Hp} {κ:Type} [DecidableEq κ]
theorem zGe {k:κ}:∀ {kvs:List (κ×D)} {ws:List (κ×V)},kvs.map (·.1)=ws.map (·.1)->Reps K G (kvs.map (·.2)) (ws.map (·.2))->(zA5 kvs k=none/\zAv ws k=none)\/∃ d v,zA5 kvs k=some d/\zAv ws k=some v/\Rep K G d v
 | [],[],_,_=>.inl ⟨rfl,rfl⟩
 | [],_::_,h,_=>by cases h
 |_::_,[],h,_=>by cases h
 |(k1,x)::kvs,(k2,w)::ws,h,r=>by
  simp only [zUc,zVl] at h
  obtain ⟨rfl,h⟩:=h
  obtain ⟨r1,r2⟩:=Reps.inv r
  by_cases hk:k1=k
  ·right
   exact ⟨x,w,by simp [zA5,hk],by simp [zAv,hk],r1⟩
  ·rcases zGe (k:=k) h r2 with ⟨q1,q2⟩|⟨d,v,q1,q2,q3⟩
   ·left
    exact ⟨by simpa [zA5,hk] using q1,by simpa [zAv,hk] using q2⟩
   ·right
    exact ⟨d,v,by simpa [zA5,hk] using q1,by simpa [zAv,hk] using q2,q3⟩
theorem zJi {α β:Type} {k:κ}:∀ {kvs:List (κ×α)} {ws:List (κ×β)},kvs.map (·.1)=ws.map (·.1)->(kvs.any λkv=>decide (kv.1=k))=ws.any λkv=>decide (kv.1=k)
 | [],[],_=>rfl
 | [],_::_,h=>by cases h
 |_::_,[],h=>by cases h
 |(k1,x)::kvs,(k2,w)::ws,h=>by
  simp only [zUc,zVl] at h
  obtain ⟨rfl,h⟩:=h
  simp only [zV3,zJi h]
theorem zHq {k:κ} {d:D} {v:V} (r:Rep K G d v):∀ {kvs:List (κ×D)} {ws:List (κ×V)},kvs.map (·.1)=ws.map (·.1)->Reps K G (kvs.map (·.2)) (ws.map (·.2)) ->
  (kvs.map λkv=>if kv.1=k then (kv.1,d) else kv).map (·.1)=(ws.map λkv=>if kv.1=k then (kv.1,v) else kv).map (·.1)/\Reps K G ((kvs.map λkv=>if kv.1=k then (kv.1,d) else kv).map (·.2)) ((ws.map λkv=>if kv.1=k then (kv.1,v) else kv).map (·.2))
 | [],[],_,_=>⟨rfl,Reps.nil⟩
 | [],_::_,h,_=>by cases h
 |_::_,[],h,_=>by cases h
 |(k1,x)::kvs,(k2,w)::ws,h,q=>by
  simp only [zUc,zVl] at h
  obtain ⟨rfl,h⟩:=h
  obtain ⟨r1,r2⟩:=Reps.inv q
  obtain ⟨i1,i2⟩:=zHq r h r2
  by_cases hk:k1=k
  ·simp only [zUc,hk,zVU]
   exact ⟨by rw [i1],Reps.cons r i2⟩
  ·simp only [zUc,hk,zVg]
   exact ⟨by rw [i1],Reps.cons r1 i2⟩
theorem zOO {k:κ} {d:D} {v:V} (r:Rep K G d v) {kvs:List (κ×D)} {ws:List (κ×V)} (h:kvs.map (·.1)=ws.map (·.1)) (q:Reps K G (kvs.map (·.2)) (ws.map (·.2))) :
  (zRL kvs k d).map (·.1)=(zCN ws k v).map (·.1)/\Reps K G ((zRL kvs k d).map (·.2)) ((zCN ws k v).map (·.2)):=by
 unfold zRL zCN
 rw [zJi h]
 split
 ·exact zHq r h q
 ·rw [zUw,zUw,zUw,zUw]
  exact ⟨by rw [h];rfl,q.append (Reps.cons r Reps.nil)⟩
end
noncomputable def gT' (ρ:Rho) (i:Nat):Option (List (List Key×D)):=match ρ[i]? with
 |some (.o _ (.p (.t kvs)))=>some kvs
 |_=>none
theorem zRM {ρ:Rho} {i:Nat} {kvs:List (List Key×D)} (h:gT' ρ i=some kvs):∃ c,ρ[i]?=some (.o c (.p (.t kvs))):=by
 unfold gT' at h
 split at h
 ·rename_i c l q;cases h;exact ⟨c,q⟩
 ·cases h
theorem t_at {K:Fg} {G H:Hp} {ρ:Rho} {σ:L2.St} {i:Nat} {c:Option Addr} {kvs:List (List Key×D)} (e:Er K G H ρ σ) (h:ρ[i]?=some (.o c (.p (.t kvs)))):∃ a ws,σ[i]?=some (some (.ref a))/\G a=none/\H a=some (.dT ws)/\kvs.map (·.1)=ws.map (·.1)/\Reps K G (kvs.map (·.2)) (ws.map (·.2))/\∀ c',c=some c'->a=c':=by
 obtain ⟨a,q1,q2,q3⟩:=e.slot i _ h rfl
 obtain ⟨ws,z1,z2,z3⟩:=q2.1.1
 exact ⟨a,ws,q1,q3 a (zUf.mpr rfl),z1,z2,z3,q2.2⟩
section
variable {X:Cx} {o a b ke:Expr} {pos pos' tpos:Pos} {i:Nat} {f fk:ROd} {x:Str}
noncomputable def tGet (i:Nat) (fk:ROd):ROd:=λρ=>(gT' ρ i).bind λkvs=>(fk ρ).bind λd=>(zMM d).bind λk=>zA5 kvs k
theorem zRN (hu:X.A.units+1<cLine) (i:Nat) (ho:PE X o (zBi i)) (hk:SE X ke fk) (hs:zSO ke:=by intro _ _;rfl):SE X (.Subscript o ke pos) (tGet i fk):=zA7 (zGR hu ho hk hs) λσ H Q=>by
 rintro ⟨G,ρ,d,s,er,ef,k⟩
 obtain ⟨kvs,e1,ef⟩:=zUX.mp ef
 obtain ⟨dk,e2,ef⟩:=zUX.mp ef
 obtain ⟨key,e3,e4⟩:=zUX.mp ef
 obtain ⟨c,e1⟩:=zRM e1
 obtain ⟨a,ws,q1,q2,q3,q4,q5,_⟩:=t_at er e1
 refine ⟨_,q1,G,ρ,dk,s,er,e2,λv G' H' t r=>?_⟩
 obtain ⟨kb,rfl,hkb⟩:=zBS e3 r
 rcases zGe (k:=key) q4 (Reps.mono t.g _ _ q5) with ⟨z,_⟩|⟨d',v',z1,z2,z3⟩
 ·rw [e4] at z;cases z
 ·rw [e4] at z1;cases z1
  exact ⟨a,v',rfl,by rw [<- z2];exact zDH.t (t.h _ _ q3) (t.s _ _ hkb),k _ G' H' t z3⟩
noncomputable def zTi (i:Nat) (fk:ROd):ROb:=λρ=>(fk ρ).bind λd=>(gT' ρ i).bind λkvs=>(zMM d).map λk=>!(zA5 kvs k).isSome
theorem zRO (hu:X.A.units+1<cLine) (i:Nat) (ho:PE X o (zBi i)) (hk:SE X ke fk) (hm:behindInMarks .NotIn o=false:=by rfl):SB X (.Compare ke [.NotIn] [o] pos) (zTi i fk):=
 zHU (zPY (zLf hu hk ho) hm) λσ H Q=>by
  rintro ⟨G,ρ,bb,s,er,ef,k⟩
  obtain ⟨dk,e2,ef⟩:=zUX.mp ef
  obtain ⟨kvs,e1,ef⟩:=zUX.mp ef
  obtain ⟨key,e3,rfl⟩:=zUZ.mp ef
  obtain ⟨c,e1⟩:=zRM e1
  refine ⟨G,ρ,dk,s,er,e2,λv G' H' t r=>?_⟩
  obtain ⟨kb,rfl,hkb⟩:=zBS e3 r
  obtain ⟨a,ws,q1,q2,q3,q4,q5,_⟩:=t_at (er.step t) e1
  refine ⟨_,q1,a,_,rfl,zDH.t q3 (t.s _ _ hkb),_,rfl,?_⟩
  rcases zGe (k:=key) q4 q5 with ⟨z,z'⟩|⟨d',v',z1,z2,z3⟩
  ·rw [z'];have:=k G' H' t;rw [z] at this;exact this
  ·rw [z2];have:=k G' H' t;rw [z1] at this;exact this
noncomputable def zOP (i:Nat) (fk f:ROd):ROo:=λρ=>(f ρ).bind λd=>(gT' ρ i).bind λkvs=>(fk ρ).bind λdk=>(zMM dk).bind λk=>if kvs.length<16000000 then some (.nx (ρ.set i (.o none (.p (.t (zRL kvs k d)))))) else none
theorem zRP (hu:X.A.units+1<cLine) (i:Nat) (ho:PE X o (zBi i)) (hk:SE X ke fk) (ha:SE X a f) (hs:swapsWith a (some (.Subscript o ke tpos)) pos.line X.env=pure false:=by rfl) :
  SS X (.Assign [.Subscript o ke tpos] a pos) (zOP i fk f):=
 ym (zLg hu ho hk ha hs) λE σ H=>by
  rintro ⟨G0,H0,G,ρ,o,st,ef,k⟩
  obtain ⟨d,e1,ef⟩:=zUX.mp ef
  obtain ⟨kvs,e2,ef⟩:=zUX.mp ef
  obtain ⟨dk,e3,ef⟩:=zUX.mp ef
  obtain ⟨key,e4,ef⟩:=zUX.mp ef
  split at ef
  ·rename_i hl
   cases ef
   obtain ⟨c,e2⟩:=zRM e2
   refine ⟨G,ρ,d,st.bs.gh,st.er,e1,λv G1 H1 t1 r1=>?_⟩
   obtain ⟨a1,ws,q1,q2,q3,q4,q5,_⟩:=t_at (st.step t1).er e2
   refine ⟨_,q1,G1,ρ,dk,t1.s,st.er.step t1,e3,λv2 G2 H2 t2 r2=>?_⟩
   have st':=(st.step t1).step t2
   obtain ⟨a2,ws2,w1,w2,w3,w4,w5,w6⟩:=t_at st'.er e2
   rw [q1] at w1;cases w1
   obtain ⟨kb,rfl,hkb⟩:=zBS e4 r2
   have hlen:ws2.length<sizeLine:=by
    have:=zVX List.length w4
    simp only [zUi] at this
    rw [<- this];exact zUm hl (by decide)
   obtain ⟨p1,p2⟩:=zOO (k:=key) (Rep.mono t2.g _ _ r1) w4 w5
   refine ⟨a1,_,rfl,zLc.t w3 (t2.s _ _ hkb) hlen,k σ G2 _ (st'.mutG (u:=.o c (.p (.t kvs))) (w:=.o none (.p (.t (zRL kvs key d)))) e2 rfl rfl q1 (zi.refl _) (λb x e=>?_) (λb x e n=>by rw [n] at e;cases e) (λb x e n=>?_) ⟨⟨⟨_,zM,p1,p2⟩,by simp [fpO,fpF]⟩,λ_ z=>by cases z⟩ λp m=>?_)⟩
   ·rw [zK (λz=>by rw [z,w2] at e;cases e)];exact t2.s _ _ e
   ·rw [zK (λz=>n (zUf.mpr z))];exact e
   ·cases zUf.mp m;exact ⟨.inl (zUf.mpr rfl),w2⟩
  ·cases ef
noncomputable def zRQ (tk tv:TE):TE:=λσ H Q=>∀ p,H p=none->tk σ (upd H p (.dT [])) λx H1=>tv σ H1 λy H2=>∃ kb ks,x = .ref kb/\H2 kb=some (.tup (ks.map kV))/\H2 p=some (.dT [])/\Q (.ref p) (upd H2 p (.dT [(ks,y)]))
theorem zMT {tk tv:TE} (hu:X.A.units+1<cLine) (hk:PE X ke tk) (hv:PE X a tv):PE X (.Dict [some ke] [a] pos) (zRQ tk tv):=by
 intro pins s σ H Q I q
 have hn:=I.hok.fresh (zUn s.heap.objs.size)
 have I1:=I.laid (a:=s.heap.objs.size) (o:=.dT []) (h':=s.heap.push { cls:=.type "dict",data:=.dict #[] }) (t':=s.toks) (λ_ _ q=>zUk _ q) (zUn _) (zJV s.heap I.big)
 refine wpAny_Dict_any rfl rfl (by simp) (by simp) (pairTrees_cons_walk (thn (hk pins _ σ _ _ I1 (q _ hn)) λu s1 ⟨x,H1,I1,rx,q1⟩=>thn (hv pins s1 σ H1 _ I1 q1) λw2 s2 ⟨y,H2,I2,ry,kb,ks,ex,ek,ed,q2⟩=>pairTrees_nil_walk ?_))
 subst ex
 cases rx
 obtain ⟨z,hd,xs,rel,dd⟩:=zQh I2.hok ed
 cases rel
 unfold storeAll
 simp only [List.forIn_cons,List.forIn_nil]
 refine zUe (zUe (wpAny_dictSet_heap (knd:=tupleKind (zy X.prog X.w)) (show X.A.units<cLine by omega) (zCo I2.hok ek) dd (λh' dd' hs=>zUl (zUl ?_)) (zV7 _)))
 obtain ⟨qq,es,ep,hq,h2,h3,h4,_,h5⟩:=dd'
 refine ⟨.ref s.heap.objs.size,_,?_,rfl,q2⟩
 refine zEV (ob:=.dT [(ks,y)]) I2 (by rw [ed];exact True.intro) hs ⟨qq,hq⟩ ⟨by rw [zVE,zWE];omega,hd,[(ks,kb,w2)],.cons ⟨rfl,?_,ry⟩ .nil,qq,es,ep,hq,h2,h3,h4,h5⟩
 show upd H2 s.heap.objs.size _ kb=_
 rw [zK (zQD ek ed (λz=>nomatch z))]
 exact ek
noncomputable def zKh (i:Nat) (fk f:ROd):ROo:=λρ=>(fk ρ).bind λdk=>(f ρ).bind λd=>(zMM dk).map λk=>.nx (ρ.set i (.o none (.p (.t [(k,d)]))))
theorem zRR (hu:X.A.units+1<cLine) (i:Nat) (hk:SE X ke fk) (ha:SE X a f) (hN:X.N.Nodup) (hi:X.N[i]?=some x) (hx:Loc X.env.scope x) {p1:Pos} (hs:swapsWith (.Dict [some ke] [a] p1) (some (.Name x pos')) pos.line X.env=pure false:=by rfl)
  (hf:X.fn x=true\/X.env.scope.names.lookup x=some .local:=by first|exact .inl rfl|exact .inr rfl|assumption):SS X (.Assign [.Name x pos'] (.Dict [some ke] [a] p1) pos) (zKh i fk f):=
 ym (zDw hN hi hx (zMT hu hk ha) hs hf) λQ σ H=>by
  rintro ⟨G0,H0,G,ρ,o,st,ef,k⟩
  obtain ⟨dk,e1,ef⟩:=zUX.mp ef
  obtain ⟨d,e2,ef⟩:=zUX.mp ef
  obtain ⟨key,e3,rfl⟩:=zUZ.mp ef
  intro p hp
  have t0:zd G H G (upd H p (.dT [])):=zd.newH st.bs.gh hp
  refine ⟨G,ρ,dk,t0.s,st.er.step t0,e1,λv1 G1 H1 t1 r1=>?_⟩
  refine ⟨G1,ρ,d,t1.s,(st.er.step t0).step t1,e2,λv2 G2 H2 t2 r2=>?_⟩
  obtain ⟨kb,rfl,hkb⟩:=zBS e3 r1
  have tt:=t1.trans t2
  have ep:H2 p=some (.dT []):=tt.h _ _ zM
  have gp:G2 p=none:=by
   cases q:G2 p with
   |none=>rfl
   |some o=>have:=tt.f p o q (st.bs.gh.free hp);rw [zM] at this;cases this
  refine ⟨kb,key,rfl,t2.h _ _ (t1.s _ _ hkb),ep,?_⟩
  have t3:zd G H G2 (upd H2 p (.dT [(key,v2)])):=⟨tt.g,λb u e=>by
    rw [zK (yq e hp)];exact (t0.trans tt).h _ _ e,λb u e=>by
    rw [zK (λz=>by rw [z,gp] at e;cases e)];exact t2.s _ _ e,(t0.trans tt).f⟩
  exact k _ G2 _ (st.setNew t3 (w:=.o none (.p (.t [(key,d)]))) rfl ⟨⟨⟨_,zM,rfl,Reps.cons r2 Reps.nil⟩,by simp [fpO,fpF]⟩,λ_ z=>by cases z⟩ λc m=>by
   cases zUf.mp m;exact ⟨hp,gp⟩)
end
noncomputable def gML (ρ:Rho) (i:Nat):Option (List (Key×List D)):=match ρ[i]? with
 |some (.o _ (.p (.ml kvs)))=>some kvs
 |_=>none
theorem zMU {ρ:Rho} {i:Nat} {kvs:List (Key×List D)} (h:gML ρ i=some kvs):∃ c,ρ[i]?=some (.o c (.p (.ml kvs))):=by
 unfold gML at h
 split at h
 ·rename_i c l q;cases h;exact ⟨c,q⟩
 ·cases h
theorem zIk {K:Fg} {G H:Hp} {ρ:Rho} {σ:L2.St} {i:Nat} {c:Option Addr} {kvs:List (Key×List D)} (e:Er K G H ρ σ) (h:ρ[i]?=some (.o c (.p (.ml kvs)))):∃ a ws,σ[i]?=some (some (.ref a))/\H a=some (.dK ws)/\kvs.map (·.1)=ws.map (·.1)/\yD K G H (kvs.map (·.2)) (ws.map (·.2))/\(a::zDI ws).Nodup/\(∀ p∈a::zDI ws,G p=none)/\(∀ c',c=some c'->a=c')/\fpS H (.o c (.p (.ml kvs))) a=a::zDI ws:=by
 obtain ⟨a,q1,q2,q3⟩:=e.slot i _ h rfl
 obtain ⟨ws,z1,z2,z3⟩:=q2.1.1
 have fe:fpS H (.o c (.p (.ml kvs))) a=a::zDI ws:=by simp only [fpS,fpO,fpF];rw [z1];rfl
 have nd:=q2.1.2
 have nd:(fpS H (.o c (.p (.ml kvs))) a).Nodup:=nd
 rw [fe] at nd q3
 exact ⟨a,ws,q1,z1,z2,z3,nd,q3,q2.2,fe⟩
section
variable {X:Cx} {o a b ke e:Expr} {pos pos' p1:Pos} {i:Nat} {f fk:ROd} {x:Str}
noncomputable def zMV (i:Nat):ROo:=λρ=>some (.nx (ρ.set i (.o none (.p (.ml [])))))
theorem zOQ (i:Nat) (hN:X.N.Nodup) (hi:X.N[i]?=some x) (hx:Loc X.env.scope x) (hs:swapsWith (.Dict [] [] p1) (some (.Name x pos')) pos.line X.env=pure false:=by rfl)
  (hf:X.fn x=true\/X.env.scope.names.lookup x=some .local:=by first|exact .inl rfl|exact .inr rfl|assumption):SS X (.Assign [.Name x pos'] (.Dict [] [] p1) pos) (zMV i):=
 ym (zDw hN hi hx zJW hs hf) λQ σ H=>by
  rintro ⟨G0,H0,G,ρ,o,st,ef,k⟩
  cases ef
  intro p hp
  exact k _ G _ (st.setNew (zd.newH st.bs.gh hp) (w:=.o none (.p (.ml []))) rfl ⟨⟨⟨_,zM,rfl,rfl⟩,by simp [fpO,fpF,zM,inK,zDI]⟩,λ_ z=>by cases z⟩ λc m=>by
   have:c=p:=by simpa [fpS,fpO,fpF,zM,inK,zDI] using m
   subst this;exact ⟨hp,st.bs.gh.free hp⟩)
noncomputable def zMW (i:Nat):ROl:=λρ=>(gML ρ i).bind λkvs=>zFV (.lst (kvs.map λq=>zLA q.1))
theorem zMX (i:Nat) (hcalm:X.calm=true) (hg:Gl X "sorted") (hm:X.mg "sorted" = none) (ho:PE X e (zBi i))
  (hs:starEach [e] X.env=(false,eval e X.env)::starEach [] X.env:=by rfl) (hpl:(backTo pos (starEach [] X.env)).any (·.1)=false:=by rfl):SF X (.Call (.Name "sorted" p1) [e] [] pos) (zMW i):=
 zA7 (zCl (zCz hcalm) hg hm zEG (yF ho qC hs) (by decide) (by decide) hs hpl) λσ H Q=>by
  rintro ⟨G,ρ,ys,s,er,ef,k⟩
  obtain ⟨kvs,e1,e2⟩:=zUX.mp ef
  obtain ⟨c,e1⟩:=zMU e1
  obtain ⟨a,ws,q1,q3,q4,_⟩:=zIk er e1
  refine ⟨_,q1,a,ws,ys,rfl,q3,?_,λl us hl r=>?_⟩
  ·rw [<- e2]
   have z:(ws.map λq=>zLA q.1)=(kvs.map λq=>zLA q.1):=by
    have:=zVX (List.map zLA) q4
    rw [zVa,zVa] at this
    exact this.symm
   rw [z]
  ·exact k l us G _ (zd.newH s hl) hl (s.free hl) zM (r _ _)
noncomputable def zRS (i:Nat) (fk:ROd):ROd:=λρ=>(gML ρ i).bind λkvs=>(fk ρ).bind λd=>(zFq d).bind λk=>(zA5 kvs k).map .lst
theorem zOR (hu:X.A.units+1<cLine) (i:Nat) (ho:PE X o (zBi i)) (hk:SE X ke fk) (hs:zSO ke:=by intro _ _;rfl):SR X (.Subscript o ke pos) (zRS i fk):=zA7 (zGR hu ho hk hs) λσ H Q=>by
 rintro ⟨G,ρ,d,s,er,ef,k⟩
 obtain ⟨kvs,e1,ef⟩:=zUX.mp ef
 obtain ⟨dk,e2,ef⟩:=zUX.mp ef
 obtain ⟨key,e3,ef⟩:=zUX.mp ef
 obtain ⟨xs,e4,rfl⟩:=zUZ.mp ef
 obtain ⟨c,e1⟩:=zMU e1
 obtain ⟨a,ws,q1,q3,_⟩:=zIk er e1
 refine ⟨_,q1,G,ρ,dk,s,er,e2,λv G' H' t r=>?_⟩
 have ev:=zBw e3 r
 subst ev
 obtain ⟨a2,ws2,w1,w3,w4,w5,w6,w7,_⟩:=zIk (er.step t) e1
 rw [q1] at w1;cases w1
 rcases yD.get (k:=key) w4 w5 with ⟨z,_⟩|⟨xs',b',us,g1,g2,g3,g4,g5⟩
 ·rw [e4] at z;cases z
 ·rw [e4] at g1;cases g1
  exact ⟨a,.ref b',rfl,by rw [<- g2];exact zDH.k (k:=key) w3,k _ G' H' t (.ow (w7 b' (zUY _ g5)) g3 g4)⟩
end
section
variable {X:Cx} {o a ke:Expr} {pos apos cpos:Pos} {fe fk:ROd}
noncomputable def zJj (i:Nat) (fk fe:ROd):ROo:=λρ=>(gML ρ i).bind λkvs=>(fk ρ).bind λkd=>(zFq kd).bind λk=>match zA5 kvs k with
  |some xs=>if xs.length<1000000 then (fe ρ).map λd=>.nx (ρ.set i (.o none (.p (.ml (zCh k (xs ++ [d]) kvs))))) else none
  |none=>if kvs.length<1000000 then (fe (ρ.set i (.o none (.p (.ml (kvs ++ [(k,[])])))))).map λd=>.nx (ρ.set i (.o none (.p (.ml (kvs ++ [(k,[d])]))))) else none
theorem zOS {sp dp lp:Pos} (i:Nat) (hu:X.A.units+1<cLine) (ho:PE X o (zBi i)) (hk:SE X ke fk) (ha:SE X a fe)
  (hbase1:attributeBase o "setdefault" X.env (eval o X.env)=eval o X.env:=by rfl)
  (hfew1:((backTo dp (starEach [ke,.List [] lp] X.env)).all (λx=>!x.1) && (backToKw dp (keywordEach [] X.env)).all (λx=>x.1.isSome)
   && decide ([ke,.List [] lp].length+([]:List Keyword).length+(if ([]:List Keyword).isEmpty then 0 else 1)<30))=true:=by rfl)
  (hline1:(sp.endLine == dp.line)=true:=by rfl) (hs1:starEach [ke,.List [] lp] X.env=(false,eval ke X.env)::starEach [.List [] lp] X.env:=by rfl) (hs2:starEach [.List [] lp] X.env=(false,eval (.List [] lp) X.env)::starEach [] X.env:=by rfl) (hplain1:(backTo dp (starEach [.List [] lp] X.env)).any (·.1)=false:=by rfl)
  (hbase:attributeBase (.Call (.Attribute o "setdefault" sp) [ke,.List [] lp] [] dp) "append" X.env (eval (.Call (.Attribute o "setdefault" sp) [ke,.List [] lp] [] dp) X.env)=eval (.Call (.Attribute o "setdefault" sp) [ke,.List [] lp] [] dp) X.env:=by rfl)
  (hfew:((backTo cpos (starEach [a] X.env)).all (λx=>!x.1) && (backToKw cpos (keywordEach [] X.env)).all (λx=>x.1.isSome)
   && decide ([a].length+([]:List Keyword).length+(if ([]:List Keyword).isEmpty then 0 else 1)<30))=true:=by rfl)
  (hline:(apos.endLine == cpos.line)=true:=by rfl) (hs:starEach [a] X.env=(false,eval a X.env)::starEach [] X.env:=by rfl) (hplain:(backTo cpos (starEach [] X.env)).any (·.1)=false:=by rfl)
  (hsw:swapsWith (.Call (.Attribute (.Call (.Attribute o "setdefault" sp) [ke,.List [] lp] [] dp) "append" apos) [a] [] cpos) none pos.line X.env=pure false:=by rfl) :
  SS X (.Expr (.Call (.Attribute (.Call (.Attribute o "setdefault" sp) [ke,.List [] lp] [] dp) "append" apos) [a] [] cpos) pos) (zJj i fk fe):=
 ym (zBq (zGO zVf zWA zWB zBs
     (zGO zWd zVb PySem.F.type_dict_setdefault (zC3 hu) ho (yF hk (yF (zLT qC) qC hs2) hs1) hbase1 hfew1 hline1 hs1 hplain1) (yF ha qC hs) hbase hfew hline hs hplain) hsw) λE σ H=>by
  rintro ⟨G0,H0,G,ρ,o,st,ef,k⟩
  obtain ⟨kvs,e1,ef⟩:=zUX.mp ef
  obtain ⟨kd,e5,ef⟩:=zUX.mp ef
  obtain ⟨kk,e6,ef⟩:=zUX.mp ef
  obtain ⟨c,e1⟩:=zMU e1
  obtain ⟨b,vs,q1,z1,_⟩:=zIk st.er e1
  refine ⟨_,q1,.inr (.inr (.inl ⟨rfl,.inl ⟨vs,z1⟩⟩)),G,ρ,kd,st.bs.gh,st.er,e5,λv1 G1 H1 t1 r1=>?_⟩
  have ev:=zBw e6 r1
  subst ev
  have st1:=st.step t1
  obtain ⟨b2,vs2,p1,y1,y2,y3,p7,p6,_,fp1⟩:=zIk st1.er e1
  rw [q1] at p1;cases p1
  rw [t1.h _ _ z1] at y1;cases y1
  have hb1:=t1.h _ _ z1
  have nd:=zVC.mp p7
  refine ⟨zV7 _,λp hp=>?_⟩
  have t2:zd G1 H1 G1 (upd H1 p (.lst [])):=zd.newH t1.s hp
  have st2:=st1.step t2
  have hb2:=t2.h _ _ hb1
  have hpb:p≠b:=λz=>by rw [z,hb1] at hp;cases hp
  have fpg:∀ {H':Hp} {l:List (Key×List D)} {ws:List (Key×V)} {c':Option Addr},H' b=some (.dK ws)->fpS H' (.o c' (.p (.ml l))) b=b::zDI ws:=λ{H' l ws c'} e=>by simp only [fpS,fpO,fpF];rw [e];rfl
  cases g0:zA5 kvs kk with
  |some xs=>
   rw [g0] at ef
   simp only at ef
   split at ef
   ·rename_i hlen
    obtain ⟨d,e7,rfl⟩:=zUZ.mp ef
    rcases yD.get (k:=kk) y2 y3 with ⟨g1,_⟩|⟨xs',b',us,g1,g2,g3,g4,g5⟩
    ·rw [g0] at g1;cases g1
    ·rw [g0] at g1;cases g1
     have hbb:b'≠b:=λz=>nd.1 (by rw [<- z];exact g5)
     refine ⟨b,_,.ref p,rfl,rfl,.inl ⟨.ref b',by rw [<- g2];exact zDH.k (k:=kk) hb2,.inl ⟨vs,hb2⟩,.inl ⟨rfl,us,SqL.of (t2.h _ _ g3)⟩,G1,ρ,d,t2.s,st2.er,e7,λv G3 H3 t3 r3=>?_⟩⟩
     have st3:=st2.step t3
     have g3':=t3.h _ _ (t2.h _ _ g3)
     have hb3:=t3.h _ _ hb2
     obtain ⟨b4,vs4,w1,w2,w3,w4,w5,fr3,_,fp3⟩:=zIk st3.er e1
     rw [q1] at w1;cases w1
     rw [hb3] at w2;cases w2
     have kb':upd H3 b' (.lst (us ++ [v])) b=some (.dK vs):=by rw [zK (Ne.symm hbb)];exact hb3
     refine ⟨b',us,v,rfl,rfl,g3',zUm (by rw [<- g4.length];exact hlen) (by decide),k σ G3 _ (st3.mutG (u:=.o c (.p (.ml kvs))) (w:=.o none (.p (.ml (zCh kk (xs ++ [d]) kvs)))) e1 rfl rfl q1 (zi.refl _) (λq x e=>?_) (λq x e n=>by rw [n] at e;cases e) (λq x e np=>?_) ⟨⟨⟨vs,kb',by rw [zBA];exact y2,?_⟩,?_⟩,λ_ z=>by cases z⟩ λq mm=>?_)⟩
     ·rw [zK (λz=>by rw [z,fr3 b' (zUY _ g5)] at e;cases e)];exact t3.s _ _ e
     ·rw [zK (λz=>np (by rw [fp3,z];exact zUY _ g5))];exact e
     ·exact yD.set zM ((Reps.mono (t2.trans t3).g _ _ g4).append (Reps.cons r3 Reps.nil)) (λq x np e=>by rw [zK np];exact e) y2 w4 nd.2 g2
     ·have:(fpS (upd H3 b' (.lst (us ++ [v]))) (.o none (.p (.ml (zCh kk (xs ++ [d]) kvs)))) b).Nodup:=by rw [fpg kb'];exact p7
      exact this
     ·rw [fpg kb'] at mm
      exact ⟨.inl (by rw [fp3];exact mm),fr3 q mm⟩
   ·cases ef
  |none=>
   rw [g0] at ef
   simp only at ef
   split at ef
   ·rename_i hlen
    obtain ⟨d,e7,rfl⟩:=zUZ.mp ef
    have hv:zAv vs kk=none:=by
     rcases yD.get (k:=kk) y2 y3 with ⟨_,g2⟩|⟨xs',b',us,g1,_⟩
     ·exact g2
     ·rw [g0] at g1;cases g1
    have hlv:vs.length<sizeLine:=by
     have:=zVX List.length y2
     simp only [zUi] at this
     rw [<- this];exact zUm hlen (by decide)
    have hput:zCN vs kk (.ref p)=vs ++ [(kk,.ref p)]:=zJU _ hv
    refine ⟨b,_,.ref p,rfl,rfl,.inr ⟨by rw [<- hv];exact zDH.k (k:=kk) hb2,_,zLc.k (k:=kk) hb2 hlv,?_⟩⟩
    rw [hput]
    have hbn:upd (upd H1 p (.lst [])) b (.dK (vs ++ [(kk,.ref p)])) b=some (.dK (vs ++ [(kk,.ref p)])):=zM
    have hpn:upd (upd H1 p (.lst [])) b (.dK (vs ++ [(kk,.ref p)])) p=some (.lst []):=by rw [zK hpb,zM]
    have gp:G1 p=none:=t1.s.free hp
    have pni:p∉zDI vs:=λm=>by
     obtain ⟨o,e⟩:=y3.there p (qG.mp m);rw [hp] at e;cases e
    have ndn:(b::(zDI vs ++ [p])).Nodup:=by
     rw [zVC,zVS]
     refine ⟨λm=>?_,nd.2,by simp,λx hx y hy=>?_⟩
     ·rcases zUj.mp m with m|m
      ·exact nd.1 m
      ·exact hpb (zUf.mp m).symm
     ·cases zUf.mp hy
      intro z;subst z;exact pni hx
    have fpn:∀ {H':Hp} {l:List (Key×List D)} {c':Option Addr},H' b=some (.dK (vs ++ [(kk,.ref p)]))->fpS H' (.o c' (.p (.ml l))) b=b::(zDI vs ++ [p]):=λ{H' l c'} e=>by rw [fpg e,zBx]
    have st3:=st1.mutG (H':=upd (upd H1 p (.lst [])) b (.dK (vs ++ [(kk,.ref p)]))) (G':=G1) (u:=.o c (.p (.ml kvs))) (w:=.o none (.p (.ml (kvs ++ [(kk,[])])))) e1 rfl rfl q1 (zi.refl _)
     (λq x e=>by
      rw [zK (λz=>by rw [z,p6 b (zUd ..)] at e;cases e),zK (λz=>by rw [z,gp] at e;cases e)];exact t1.s _ _ e)
     (λq x e n=>by rw [n] at e;cases e)
     (λq x e np=>by
      rw [zK (λz=>np (by rw [fp1,z];exact zUd ..)),zK (λz=>by rw [z,hp] at e;cases e)];exact e)
     ⟨⟨⟨_,hbn,by simp [y2],by
       rw [zUw,zUw]
       refine yD.snoc hpn Reps.nil (y3.same (zi.refl _) λq m o z=>?_)
       rw [zK (λzz=>nd.1 (by rw [<- zz];exact qG.mpr m)),zK (λzz=>by rw [zz,hp] at z;cases z)];exact z⟩,by
       have:(fpS (upd (upd H1 p (.lst [])) b (.dK (vs ++ [(kk,.ref p)]))) (.o none (.p (.ml (kvs ++ [(kk,[])])))) b).Nodup:=by rw [fpn hbn];exact ndn
       exact this⟩,λ_ z=>by cases z⟩
     (λq mm=>by
      rw [fpn hbn] at mm
      rcases zUg.mp mm with z|mm
      ·subst z;exact ⟨.inl (by rw [fp1];exact zUd ..),p6 _ (zUd ..)⟩
      ·rcases zUj.mp mm with mm|mm
       ·exact ⟨.inl (by rw [fp1];exact zUY _ mm),p6 _ (zUY _ mm)⟩
       ·cases zUf.mp mm;exact ⟨.inr hp,gp⟩)
    have hil:i<ρ.length:=(zUs.mp e1).1
    have hu3:(ρ.set i (.o none (.p (.ml (kvs ++ [(kk,[])])))))[i]?=some (.o none (.p (.ml (kvs ++ [(kk,[])])))):=zVG hil
    refine ⟨.inl ⟨rfl,[],SqL.of hpn⟩,G1,_,d,st3.bs.gh,st3.er,e7,λv G4 H4 t4 r4=>?_⟩
    have st4:=st3.step t4
    have hb4:=t4.h _ _ hbn
    obtain ⟨b5,vs5,w1,x1,x2,x3,w7,w6,_,fp4⟩:=zIk st4.er hu3
    rw [q1] at w1;cases w1
    rw [hb4] at x1;cases x1
    rw [zBx] at w6 w7 fp4
    have kb':upd H4 p (.lst ([] ++ [v])) b=some (.dK (vs ++ [(kk,.ref p)])):=by rw [zK (Ne.symm hpb)];exact hb4
    have gv:zAv (vs ++ [(kk,V.ref p)]) kk=some (.ref p):=zGc hv
    refine ⟨p,[],v,rfl,rfl,t4.h _ _ hpn,by decide,?_⟩
    have fin:=st4.mutG (H':=upd H4 p (.lst ([] ++ [v]))) (G':=G4) (u:=.o none (.p (.ml (kvs ++ [(kk,[])])))) (w:=.o none (.p (.ml (zCh kk [d] (kvs ++ [(kk,[])]))))) hu3 rfl rfl q1 (zi.refl _)
     (λq x e=>by rw [zK (λz=>by rw [z,w6 p (by simp)] at e;cases e)];exact t4.s _ _ e)
     (λq x e n=>by rw [n] at e;cases e)
     (λq x e np=>by rw [zK (λz=>np (by rw [fp4,z];simp))];exact e)
     ⟨⟨⟨_,kb',by rw [zBA];exact x2,yD.set zM (Reps.cons r4 Reps.nil) (λq x np e=>by rw [zK np];exact e) x2 x3 (by rw [zBx];exact (zVC.mp ndn).2) gv⟩,by
       have:(fpS (upd H4 p (.lst ([] ++ [v]))) (.o none (.p (.ml (zCh kk [d] (kvs ++ [(kk,[])]))))) b).Nodup:=by rw [fpn kb'];exact ndn
       exact this⟩,λ_ z=>by cases z⟩
     (λq mm=>by rw [fpn kb'] at mm;exact ⟨.inl (by rw [fp4];exact mm),w6 q mm⟩)
    rw [zGb g0,List.set_set] at fin
    exact k σ G4 _ fin
   ·cases ef
end
noncomputable def zDb (ρ:Rho) (i:Nat):Option Ob:=match ρ[i]? with
 |some (.l xs)=>some (.p (.l xs))
 |some (.m kvs)=>some (.p (.m kvs))
 |some (.o _ x)=>some x
 |some (.b _ x)=>some x
 |_=>none
theorem zJk {K:Fg} {G H:Hp} {ρ:Rho} {σ:L2.St} {i:Nat} {x:Ob} (e:Er K G H ρ σ) (h:zDb ρ i=some x):∃ a,σ[i]?=some (some (.ref a))/\At K G H x a:=by
 unfold zDb at h
 split at h
 ·rename_i xs q
  cases h
  obtain ⟨a,h1,h2,h3⟩:=e.slot i _ q rfl
  exact ⟨a,h1,h2,by simp [fpO,fpF],h3⟩
 ·rename_i xs q
  cases h
  obtain ⟨a,h1,h2,h3⟩:=e.slot i _ q rfl
  exact ⟨a,h1,h2,by simp [fpO,fpF],h3⟩
 ·rename_i c y q
  cases h
  obtain ⟨a,h1,h2,h3⟩:=e.slot i _ q rfl
  exact ⟨a,h1,h2.1.1,h2.1.2,h3⟩
 ·rename_i c y q
  cases h
  obtain ⟨a,h1,h2,h3⟩:=e.slot i _ q rfl
  exact ⟨a,h1,h2.1.1,h2.1.2,h3⟩
 ·cases h
section
variable {X:Cx} {o a e:Expr} {es:List Expr} {pos:Pos} {i:Nat} {f:ROd} {fl:ROl}
noncomputable def vBin (i:Nat) (f:ROd):ROd:=λρ=>(f ρ).bind λd=>(zDb ρ i).bind λx=>match x with
 |.p (.m kvs)=>(zFq d).map λk=>.bl (zDa kvs k).isSome
 |_=>none
theorem zTj (hu:X.A.units+1<cLine) (i:Nat) (ho:PE X o (zBi i)) (ha:SE X a f) (hm:behindInMarks .In o=false:=by rfl):SE X (.Compare a [.In] [o] pos) (vBin i f):=
 zA7 (zSa (zPd hu ha ho) hm) λσ H Q=>by
  rintro ⟨G,ρ,d,s,er,ef,k⟩
  obtain ⟨dk,e1,ef⟩:=zUX.mp ef
  obtain ⟨x,e2,ef⟩:=zUX.mp ef
  cases x with
  |ins C fs=>cases ef
  |p y=>
   cases y with
   |m kvs=>
    obtain ⟨key,e3,rfl⟩:=zUZ.mp ef
    refine ⟨G,ρ,dk,s,er,e1,λv G' H' t r=>?_⟩
    obtain ⟨a',q1,A⟩:=zJk (er.step t) e2
    obtain ⟨ws,z1,z2⟩:=A.rep
    have ek:=zBw e3 r
    subst ek
    refine ⟨_,q1,a',_,rfl,zDH.k (k:=key) z1,?_⟩
    rcases z2.get (k:=key) with ⟨y1,y2⟩|⟨d',v',y1,y2,y3⟩
    ·rw [y2];exact k _ G' H' t (by rw [y1];exact yQ.mpr rfl)
    ·rw [y2];exact k _ G' H' t (by rw [y1];exact yQ.mpr rfl)
   |_=>cases ef
noncomputable def tAo (K:Fg) (i:Nat) (f:ROl):TA:=λσ H Q=>∃ G ρ ds x,zi G H/\Er K G H ρ σ/\f ρ=some ds/\zDb ρ i=some x/\∀ vs a G' H',zd G H G' H'->Reps K G' ds vs->At K G' H' x a->Q (vs ++ [.ref a]) H'
structure SAo (X:Cx) (es:List Expr) (i:Nat) (f:ROl):Prop where
 pa:PA X es (tAo X.K i f)
 len:∀ ρ ds,f ρ=some ds->ds.length+1=es.length
theorem zRT (i:Nat) (ho:PE X o (zBi i)) (hs:starEach [o] X.env=(false,eval o X.env)::starEach [] X.env:=by rfl):SAo X [o] i zN where
 pa:=zNz (yF ho qC hs) λσ H Q=>by
  rintro ⟨G,ρ,ds,x,s,er,ef,ex,k⟩
  cases ef
  obtain ⟨a,q1,A⟩:=zJk er ex
  exact ⟨_,q1,k [] a G H (zd.refl s) Reps.nil A⟩
 len:=λρ ds h=>by cases h;rfl
noncomputable def aCo (f:ROd) (g:ROl):ROl:=λρ=>(f ρ).bind λd=>(g ρ).map (d :: ·)
theorem zGf (ha:SE X e f) (hr:SAo X es i fl) (hs:starEach (e::es) X.env=(false,eval e X.env)::starEach es X.env:=by rfl):SAo X (e::es) i (aCo f fl) where
 pa:=zNz (yF ha hr.pa hs) λσ H Q=>by
  rintro ⟨G,ρ,ds,x,s,er,ef,ex,k⟩
  obtain ⟨d,e1,ef⟩:=zUX.mp ef
  obtain ⟨ds',e2,rfl⟩:=zUZ.mp ef
  refine ⟨G,ρ,d,s,er,e1,λv G1 H1 t1 r1=>⟨G1,ρ,ds',x,t1.s,er.step t1,e2,ex,λvs a G' H' t r A=>?_⟩⟩
  exact k (v::vs) a G' H' (t1.trans t) (Reps.cons (Rep.mono t.g _ _ r1) r) A
 len:=λρ ds h=>by
  obtain ⟨d,e1,h⟩:=zUX.mp h
  obtain ⟨ds',e2,rfl⟩:=zUZ.mp h
  have:=hr.len _ _ e2
  simp only [zUa];omega
end
noncomputable def spXB (K:Fg) (κ:Nat->Addr) (f:List D->Ob->Option (Except Nat D)) (n:Nat):Sp:=λvs H Q E=>∃ G ds x a ws r,vs=ws ++ [.ref a]/\zi G H/\At K G H x a/\Reps K G ds ws/\ds.length+1=n/\f ds x=some r/\match r with
 |.ok d=>∀ v G' H',zd G H G' H'->Rep K G' d v->Q v H'
 |.error c=>∀ G' H',zd G H G' H'->E (.ref (κ c)) none H'
noncomputable def zMY (N:List Str) (F:Rho->Option zAy) (a:Addr) (ds:List D) (x:Ob):Option (Except Nat D):=(F ((ds.map Sl.v ++ [.b a x])++List.replicate (N.length-(ds.length+1)) .un)).bind λo=>match o with
 |.o (.rt d)=>some (.ok d)
 |.o (.nx _)=>some (.ok .non)
 |.ex c=>some (.error c)
 |_=>none
theorem zOT {K:Fg} {G H:Hp} {a:Addr} {x:Ob} {ds:List D} {vs:List V} (A:At K G H x a) (r:Reps K G ds vs):Er K G H (ds.map Sl.v ++ [.b a x]) ((vs ++ [V.ref a]).map some):=by
 have hl:=r.length
 have low:∀ {i:Nat} {s:Sl},(ds.map Sl.v ++ [Sl.b a x])[i]?=some s->(∃ d,s = .v d/\ds[i]?=some d)\/(i=ds.length/\s = .b a x):=λ{i s} h=>by
  by_cases hi:i<ds.length
  ·rw [zU5 (by simpa using hi),zVK] at h
   cases q:ds[i]? with
   |none=>rw [q] at h;cases h
   |some d=>rw [q] at h;cases h;exact .inl ⟨d,rfl,rfl⟩
  ·rw [zU8 (by simpa using hi)] at h
   have hm:=zU3 h
   have hlt:=(zUs.mp h).1
   simp only [zUi,zVE] at hlt
   exact .inr ⟨by omega,zUf.mp hm⟩
 refine ⟨by simp [hl],λi d h=>?_,λi s h o=>?_,λi j s t b c ne h1 o1 h2 o2=>?_⟩
 ·rcases low h with ⟨d',z,q⟩|⟨_,z⟩
  ·cases z
   obtain ⟨v,e1,e2⟩:=r.get q
   have hi:i<vs.length:=(zUs.mp e1).1
   exact ⟨v,by rw [zUw,zU5 (by simpa using hi),zVK,e1];rfl,e2⟩
  ·cases z
 ·rcases low h with ⟨d',z,q⟩|⟨hi,z⟩
  ·subst z;cases o
  ·subst z
   refine ⟨a,?_,⟨⟨A.rep,A.nd⟩,rfl⟩,A.fr⟩
   rw [hi,hl,zUw,zU8 (by simp)]
   simp
 ·rcases low h1 with ⟨d',z,q⟩|⟨hi,z⟩<;>(subst z;cases o1)
section
variable {P:Program} {w:World} {K:Fg} {mg:MGt} {base:Heap} {κ:Nat->Addr}
theorem zRU {x qual:Str} {st:Stmt} {fa:Addr} {fd:FuncData} {N ps:List Str} {k:Nat} {F:Rho->Option zAy} {f:List D->Ob->Option (Except Nat D)}
  (FF:Fun K x qual st fa fd) (S:zT N ps (zH st))
  (hbody:∀ (cdv:Value) (A:Around) (outer:List Env) (s:Shared) (H:Hp) (E:XK),zAO k (A.deeper (envOfC qual (zH st) s.heap.objs.size fa cdv))->SXs (cxE P w K mg base N qual (zH st) fa cdv A outer s H E) κ E (yE st) F)
  (hf:∀ a ds y r,ds.length+1=ps.length->f ds y=some r->zMY N F a ds y=some r):zCb P w K mg base (CXE P w) (k+1) fa fd ps (spXB K κ f ps.length):=by
 obtain ⟨oc,od,kV,doc,pm,an,cdv,ct,osl,rfl,lk,hcd⟩:=FF.ex
 refine zNq lk hcd S (λvs H Q E h=>?_) λA outer s H vs Q E hr h=>?_
 ·obtain ⟨G,ds,y,a,ws,d,rfl,_,_,r,hn,_⟩:=h
  rw [zUr,zVE,<- r.length,hn]
 ·obtain ⟨G,ds,y,a,ws,r,rfl,sm,hA,rp,hn,ef,kk⟩:=h
  refine ⟨_,hbody cdv A outer s H E hr,?_⟩
  obtain ⟨o,e1,e2⟩:=zUX.mp (hf a ds y r hn ef)
  have er:=(zOT hA rp).app (N.length-(ds.length+1)) (List.replicate (N.length-(ds.length+1)) none) (by simp)
  have es:L2.zBj N (ws ++ [.ref a])=(ws ++ [V.ref a]).map some++List.replicate (N.length-(ds.length+1)) none:=by rw [zC2,zUr,zVE,<- rp.length]
  rw [es]
  refine ⟨G,H,G,_,o,⟨er,⟨sm,zi.refl _,zi.refl _,λb o e n=>by rw [e] at n;cases n⟩,λi u b h1 h2 h3=>?_⟩,e1,?_⟩
  ·exfalso
   rcases zUj.mp (zU3 h1) with q|q
   ·rcases zUj.mp q with q|q
    ·obtain ⟨d',_,rfl⟩:=zVA.mp q;cases h2
    ·rw [zUf.mp q] at h2;cases h2
   ·rw [(zWH.mp q).2] at h2;cases h2
  ·cases o with
   |o x=>
    cases x with
    |rt d'=>
     cases e2
     exact λv G' H' b r'=>kk v G' H' ⟨b.gg,b.hh,b.gh,b.fr⟩ r'
    |nx ρ=>
     cases e2
     exact λσ' G' H' st'=>kk .non G' H' ⟨st'.bs.gg,st'.bs.hh,st'.bs.gh,st'.bs.fr⟩ (zAQ.mpr rfl)
    |bk ρ=>cases e2
    |ct ρ=>cases e2
    |ro ρ=>cases e2
    |rm d ρ=>cases e2
   |ex c=>
    cases e2
    exact λG' H' b=>kk G' H' ⟨b.gg,b.hh,b.gh,b.fr⟩
end
structure zRV (P:Program) (w:World) (K:Fg) (mg:MGt) (base:Heap) (κ:Nat->Addr) (k:Nat) (x:Str) (n:Nat) (F:List D->Ob->Option (Except Nat D)):Prop where
 ex:∃ f fd ps,zCb P w K mg base (CXE P w) k f fd ps (spXB K κ F n)/\mg x=some (.ref f)/\PySem.W.keepIn K (.ref f)=true/\L2.zAu K fd ps []
section
variable {X:Cx} {κ:Nat->Addr} {W:XK} {e:Expr} {es:List Expr} {fl:ROl} {pos p cpos:Pos} {x y:Str} {k n i:Nat} {f:List D->Ob->Option (Except Nat D)}
noncomputable def zRW (i:Nat) (fl:ROl) (f:List D->Ob->Option (Except Nat D)):Rho->Option (Except Nat D):=λρ=>(fl ρ).bind λds=>(zDb ρ i).bind λx=>f ds x
theorem zOU (h:zRV X.prog X.w X.K X.mg X.base κ k x n f) (hP:zBb (CXE X.prog X.w) X W) (hr:zAO k X.A) (hg:X.env.kindOf x=some .globalImplicit) (hn:(e::es).length=n) (ha:SAo X (e::es) i fl) (hdb:(x == ("__debug__" : Str))=false:=by decide)
  (he:starEach (e::es) X.env=(false,eval e X.env)::starEach es X.env:=by rfl) (hpl:(backTo pos (starEach es X.env)).any (·.1)=false:=by rfl) :
  PE X (.Call (.Name x p) (e::es) [] pos) (tCx X.K κ W (zRW i fl f)):=by
 obtain ⟨fa,fd,ps,FO,hm,hk,hb⟩:=h.ex
 refine zA7 (zGL (E:=W) FO hr hg hm hk hb .nil hP ha.pa hdb he hpl) λσ H Q zz=>?_
 obtain ⟨G,ρ,r,s,er,ef,k⟩:=zz
 obtain ⟨xs,e1,ef⟩:=zUX.mp ef
 obtain ⟨y,e2,e3⟩:=zUX.mp ef
 refine ⟨G,ρ,xs,y,s,er,e1,e2,λvs a G1 H1 t1 r1 A=>?_⟩
 show spXB X.K κ f n ((vs ++ [.ref a]) ++ []) H1 Q W
 rw [zVP]
 refine ⟨G1,xs,y,a,vs,r,rfl,t1.s,A,r1,by rw [ha.len _ _ e1,hn],e3,?_⟩
 cases r with
 |ok d=>exact λv G' H' t r=>k v G' H' (t1.trans t) r
 |error c=>exact λG' H' t=>k G' H' (t1.trans t)
end
section
variable {X:Cx} {c a b:Expr} {pos:Pos} {p:ROb} {f g:ROd}
noncomputable def vIf (p:ROb) (f g:ROd):ROd:=λρ=>(p ρ).bind λk=>if k=true then f ρ else g ρ
theorem zOV (hc:SB X c p) (ha:SE X a f) (hb:SE X b g):SE X (.IfExp c a b pos) (vIf p f g):=zA7 (zNj hc ha hb) λσ H Q=>by
 rintro ⟨G,ρ,d,s,er,ef,k⟩
 obtain ⟨kk,e1,e2⟩:=zUX.mp ef
 refine ⟨G,ρ,kk,s,er,e1,λG1 H1 t1=>?_⟩
 cases kk with
 |true=>rw [zUp rfl] at e2 ⊢;exact ⟨G1,ρ,d,t1.s,er.step t1,e2,λv G' H' t r=>k v G' H' (t1.trans t) r⟩
 |false=>rw [zVD zU7] at e2 ⊢;exact ⟨G1,ρ,d,t1.s,er.step t1,e2,λv G' H' t r=>k v G' H' (t1.trans t) r⟩
end
theorem zCO {α β:Type} {f g:α->List β}:∀ {l:List α},(∀ x∈l,f x=g x)->l.flatMap f=l.flatMap g
 | [],_=>rfl
 |x::l,h=>by rw [zVI,zVI,h x (zUd ..),zCO λy m=>h y (zUY _ m)]
section
variable {K:Fg} {G0 H0 G H:Hp} {ρ:Rho} {σ:L2.St} {i:Nat} {a C dx:Addr} {c:Option Addr} {f:Str} {fs:List (Str×Fl)} {ws:List (Str×V)} {fl:Fl} {u:V}
theorem zHr {α:Type} {q:Str×α}:∀ {fs:List (Str×α)},fs.lookup f=none->q∈fs->q.1≠f
 | [],_,m=>by cases m
 |(g,y)::r,h,m=>by
  rw [zUy] at h
  split at h
  ·cases h
  ·rename_i e
   rcases zUg.mp m with z|m
   ·subst z;exact λz=>by subst z;simp at e
   ·exact zHr h m
theorem zEt {α:Type} {x g:Str} {y:α}:∀ {fs:List (Str×α)},(fs ++ [(g,y)]).lookup x=none->fs.lookup x=none/\x≠g
 |[],h=>by
  refine ⟨rfl,λz=>?_⟩
  subst z
  simp at h
 |(k,z)::r,h=>by
  rw [zVd,zUy] at h
  rw [zUy]
  split at h
  ·cases h
  ·exact zEt h
theorem At.addL (h:At K G H (.ins C fs) a) (ha:H a=some (.ins C dx ws)) (hl:fs.lookup f=none) (hr:zK8 K G H fl u) (hn:(fpL H fl u).Nodup) (hf:∀ p∈fpL H fl u,p∉fpO H (.ins C fs) a/\G p=none) :
  At K G (upd H a (.ins C dx (zCB f u ws))) (.ins C (fs ++ [(f,fl)])) a/\fpO (upd H a (.ins C dx (zCB f u ws))) (.ins C (fs ++ [(f,fl)])) a=fpO H (.ins C fs) a++fpL H fl u:=by
 obtain ⟨dx',ws',z1,z2,z3,z4⟩:=h.rep
 rw [ha] at z1;cases z1
 have eO:fpO H (.ins C fs) a=a::dx::fpW H fs ws:=by simp only [fpO];rw [ha];rfl
 have hnd:=h.nd
 have fr:=h.fr
 rw [eO] at hnd fr
 have n1:=zVC.mp hnd
 have n2:=zVC.mp n1.2
 have ha':upd H a (.ins C dx (zCB f u ws)) a=some (.ins C dx (zCB f u ws)):=zM
 have hax:dx≠a:=λz=>n1.1 (by rw [z];exact zUd ..)
 have lk:∀ (q:Str×Fl),q∈fs->(zCB f u ws).lookup q.1=ws.lookup q.1:=λq m=>by rw [zAN,zVD (zHr hl m)]
 have stay:∀ (q:Str×Fl),q∈fs->∃ v,ws.lookup q.1=some v/\zK8 K G (upd H a (.ins C dx (zCB f u ws))) q.2 v/\fpL (upd H a (.ins C dx (zCB f u ws))) q.2 v=fpL H q.2 v:=λq m=>by
  obtain ⟨v,r1,r2⟩:=z3 q m
  refine ⟨v,r1,r2.same (zi.refl _) λp mp o zz=>?_⟩
  rw [zK (λz=>n1.1 (by rw [<- z];exact zUY _ (zDU m r1 mp)))];exact zz
 have nw:=hr.same (zi.refl _) (H':=upd H a (.ins C dx (zCB f u ws))) λp mp o zz=>by
  rw [zK (λz=>(hf p mp).1 (by rw [eO,z];exact zUd ..))];exact zz
 have hfl:(zCB f u ws).lookup f=some u:=by rw [zAN,zUp rfl]
 have wO:fpW (upd H a (.ins C dx (zCB f u ws))) fs (zCB f u ws)=fpW H fs ws:=by
  unfold fpW
  refine zCO λq m=>?_
  obtain ⟨v,r1,_,r3⟩:=stay q m
  rw [lk q m,r1];exact r3
 have eN:fpO (upd H a (.ins C dx (zCB f u ws))) (.ins C (fs ++ [(f,fl)])) a=(a::dx::fpW H fs ws)++fpL H fl u:=by
  simp only [fpO];rw [ha'];simp only [inI]
  have:fpW (upd H a (.ins C dx (zCB f u ws))) (fs ++ [(f,fl)]) (zCB f u ws)=fpW H fs ws++fpL H fl u:=by
   rw [<- wO,<- nw.2]
   unfold fpW
   rw [List.flatMap_append,zVI,List.flatMap_nil,zVP]
   simp only [hfl]
  rw [this];rfl
 refine ⟨⟨⟨dx,_,ha',by rw [zK hax];exact z2,λq m=>?_,λx e=>?_,?_⟩,?_,λp m=>?_⟩,by rw [eN,eO]⟩
 ·rcases zUj.mp m with m|m
  ·obtain ⟨v,r1,r2,_⟩:=stay q m
   exact ⟨v,by rw [lk q m];exact r1,r2⟩
  ·cases zUf.mp m
   exact ⟨u,hfl,nw.1⟩
 ·obtain ⟨e1,e2⟩:=zEt e
  rw [zAN,zVD e2]
  exact z4.1 x e1
 ·have:=zCa f u ws
  rw [zUr,zVE]
  have:=z4.2
  omega
 ·rw [eN,zVS]
  refine ⟨hnd,hn,λp m q mq=>?_⟩
  intro z;subst z
  exact (hf p mq).1 (by rw [eO];exact m)
 ·rw [eN] at m
  rcases zUj.mp m with m|m
  ·exact fr p m
  ·exact (hf p m).2
theorem StR.addL (s:StR K G0 H0 G H ρ σ) (hu:ρ[i]?=some (.o c (.ins C fs))) (hσ:σ[i]?=some (some (.ref a))) (ha:H a=some (.ins C dx ws)) (hl:fs.lookup f=none) (hr:zK8 K G H fl u) (hn:(fpL H fl u).Nodup)
  (hf:∀ p∈fpL H fl u,G p=none/\H0 p=none/\∀ (j:Nat) (v:Sl) (b:Addr),ρ[j]?=some v->v.isObj=true->σ[j]?=some (some (.ref b))->p∉fpS H v b) :
  StR K G0 H0 G (upd H a (.ins C dx (zCB f u ws))) (ρ.set i (.o c (.ins C (fs ++ [(f,fl)])))) σ:=by
 obtain ⟨a',h1,h2,h3⟩:=s.er.slot i _ hu rfl
 rw [hσ] at h1;cases h1
 have A:At K G H (.ins C fs) a:=⟨h2.1.1,h2.1.2,h3⟩
 obtain ⟨A',eF⟩:=A.addL ha hl hr hn λp m=>⟨(hf p m).2.2 i _ a hu rfl hσ,(hf p m).1⟩
 have hi:i<ρ.length:=(zUs.mp hu).1
 have hG:G a=none:=h3 a (zBN rfl)
 have oth:∀ {j:Nat} {v:Sl} {b:Addr},j≠i->ρ[j]?=some v->v.isObj=true->σ[j]?=some (some (.ref b))->a∉fpS H v b:=λ{j v b} ne h o q m=>s.er.sep i j _ v a b (Ne.symm ne) hu rfl h o hσ q a (zBN rfl) m
 have all:∀ {j:Nat} {v:Sl} {b:Addr},j≠i->ρ[j]?=some v->v.isObj=true->σ[j]?=some (some (.ref b))->zJX K G (upd H a (.ins C dx (zCB f u ws))) v b/\fpS (upd H a (.ins C dx (zCB f u ws))) v b=fpS H v b:=λ{j v b} ne h o q=>by
  obtain ⟨b',g1,g2,g3⟩:=s.er.slot j v h o
  rw [q] at g1;cases g1
  exact g2.same (zi.refl _) λp m x z=>by rw [zK (λy=>oth ne h o q (by rw [<- y];exact m))];exact z
 have eS:fpS (upd H a (.ins C dx (zCB f u ws))) (.o c (.ins C (fs ++ [(f,fl)]))) a=fpS H (.o c (.ins C fs)) a++fpL H fl u:=eF
 refine ⟨⟨by simpa using s.er.len,λj d' h=>?_,λj v h o=>?_,λj k v v' b b' ne h1 o1 h2 o2 q1 q2=>?_⟩,⟨λb x e=>?_,s.bs.gg,λb x e=>?_,s.bs.fr⟩,λj v b h o q=>?_⟩
 ·rcases zu h with ⟨rfl,e,_⟩|⟨hj,h⟩
  ·cases e
  ·exact s.er.val j d' h
 ·rcases zu h with ⟨rfl,e,_⟩|⟨hj,h⟩
  ·subst e;exact ⟨a,hσ,⟨⟨A'.rep,A'.nd⟩,h2.2⟩,A'.fr⟩
  ·obtain ⟨b,g1,_,g3⟩:=s.er.slot j v h o
   have q:=all hj h o g1
   exact ⟨b,g1,q.1,by rw [q.2];exact g3⟩
 ·have new:∀ {k:Nat} {v':Sl} {b' p:Addr},k≠i->ρ[k]?=some v'->v'.isObj=true->σ[k]?=some (some (.ref b'))->p∈fpS H (.o c (.ins C fs)) a++fpL H fl u->p∉fpS H v' b':=λ{k v' b' p} nk h o q m=>by
   rcases zUj.mp m with m|m
   ·exact s.er.sep i k _ v' a b' (Ne.symm nk) hu rfl h o hσ q p m
   ·exact (hf p m).2.2 k v' b' h o q
  rcases zu h1 with ⟨ej,e,_⟩|⟨hj,h1'⟩
  ·subst ej;subst e
   rw [hσ] at q1;cases q1
   rcases zu h2 with ⟨ek,_,_⟩|⟨hk,h2'⟩
   ·exact absurd ek.symm ne
   ·rw [eS,(all hk h2' o2 q2).2]
    exact λp m=>new hk h2' o2 q2 m
  ·rcases zu h2 with ⟨ek,e,_⟩|⟨hk,h2'⟩
   ·subst ek;subst e
    rw [hσ] at q2;cases q2
    rw [eS,(all hj h1' (Sl.obj_of_own o1) q1).2]
    exact λp m z=>new hj h1' (Sl.obj_of_own o1) q1 z m
   ·rw [(all hj h1' (Sl.obj_of_own o1) q1).2,(all hk h2' o2 q2).2]
    exact s.er.sep j k v v' b b' ne h1' o1 h2' o2 q1 q2
 ·rw [zK (λz=>by rw [z,hG] at e;cases e)];exact s.bs.gh b x e
 ·rw [zK (λz=>by rw [z,s.ow i _ a hu rfl hσ] at e;cases e)];exact s.bs.hh b x e
 ·rcases zu h with ⟨rfl,e,_⟩|⟨hj,h⟩
  ·subst e
   rw [hσ] at q;cases q
   rw [eS]
   intro p m
   rcases zUj.mp m with m|m
   ·exact s.ows j _ a hu rfl hσ p m
   ·exact (hf p m).2.1
  ·rw [(all hj h (Sl.obj_of_own o) q).2];exact s.ows j v b h o q
end
section
variable {X:Cx} {o value:Expr} {pos pos':Pos} {C:Addr} {f:Str} {fv:ROd} {fl:ROl}
noncomputable def zC4 (C:Addr) (i:Nat) (f:Str) (x:Fl) (ρ:Rho):Option Out:=match ρ[i]? with
 |some (.o c (.ins C' fs))=>if C'=C/\(fs.lookup f).isNone=true/\fs.length<900 then some (.nx (ρ.set i (.o c (.ins C (fs ++ [(f,x)]))))) else none
 |_=>none
theorem zGg {i:Nat} {x:Fl} {ρ:Rho} {out:Out} (h:zC4 C i f x ρ=some out):∃ c fs,ρ[i]?=some (.o c (.ins C fs))/\fs.lookup f=none/\fs.length<900/\out = .nx (ρ.set i (.o c (.ins C (fs ++ [(f,x)])))):=by
 unfold zC4 at h
 split at h
 ·rename_i c C' fs q
  split at h
  ·rename_i hh
   obtain ⟨rfl,h2,h3⟩:=hh
   cases h
   exact ⟨c,fs,q,by simpa using h2,h3,rfl⟩
  ·cases h
 ·cases h
theorem zJl (i:Nat) (c:Cls X.K C) (n:qO X.K C f) (ho:PE X o (zBi i)) (hv:SF X value fl) (hs:swapsWith value (some (.Attribute o f pos')) pos.line X.env=pure false:=by rfl) :
  SS X (.Assign [.Attribute o f pos'] value pos) (λρ=>(fl ρ).bind λxs=>zC4 C i f (.f (.l xs)) ρ):=
 ym (zLS ho hv hs) λE σ H=>by
  rintro ⟨G0,H0,G,ρ,out,st,ef,k⟩
  obtain ⟨xs,e1,ef⟩:=zUX.mp ef
  obtain ⟨c',fs,hu,hl,hlen,rfl⟩:=zGg ef
  refine ⟨G,ρ,xs,st.bs.gh,st.er,e1,λb vs G' H' t h1 h2 h3 r=>?_⟩
  have st':=st.step t
  obtain ⟨a,q1,q2,q3⟩:=st'.er.slot i _ hu rfl
  obtain ⟨dx,ws,z1,z2,z3,z4,z5⟩:=q2.1.1
  refine ⟨_,q1,a,C,dx,ws,rfl,z1,c,n,by omega,k σ G' _ (st'.addL (fl:=.f (.l xs)) (u:=.ref b) hu q1 z1 hl ⟨b,rfl,vs,h3,r⟩ (by simp [fpL,fpF]) λp m=>?_)⟩
  have:p=b:=by simpa [fpL,fpF] using m
  subst this
  refine ⟨h2,st.bs.hh.free h1,λj v b' hj oj qj m=>?_⟩
  rw [st.er.fp t.h hj oj qj] at m
  obtain ⟨⟨x,e⟩,_⟩:=st.er.there hj oj qj m
  rw [h1] at e;cases e
theorem zOW (i:Nat) (c:Cls X.K C) (n:qO X.K C f) (ho:PE X o (zBi i)) {p1:Pos} (hs:swapsWith (.Dict [] [] p1) (some (.Attribute o f pos')) pos.line X.env=pure false:=by rfl) :
  SS X (.Assign [.Attribute o f pos'] (.Dict [] [] p1) pos) (λρ=>zC4 C i f (.f (.tl [])) ρ):=
 ym (zLS ho zNv hs) λE σ H=>by
  rintro ⟨G0,H0,G,ρ,out,st,ef,k⟩
  obtain ⟨c',fs,hu,hl,hlen,rfl⟩:=zGg ef
  intro b hb
  have t:zd G H G (upd H b (.dT [])):=zd.newH st.bs.gh hb
  have st':=st.step t
  obtain ⟨a,q1,q2,q3⟩:=st'.er.slot i _ hu rfl
  obtain ⟨dx,ws,z1,z2,z3,z4,z5⟩:=q2.1.1
  have e0:fpL (upd H b (.dT [])) (.f (.tl [])) (.ref b) = [b]:=by simp only [fpL,fpF];rw [zM];rfl
  refine ⟨_,q1,a,C,dx,ws,rfl,z1,c,n,by omega,k σ G _ (st'.addL (fl:=.f (.tl [])) (u:=.ref b) hu q1 z1 hl ⟨b,rfl,[],zM,rfl,rfl⟩ (by rw [e0];simp) λp m=>?_)⟩
  rw [e0] at m
  have:p=b:=by simpa using m
  subst this
  refine ⟨st.bs.gh.free hb,st.bs.hh.free hb,λj v b' hj oj qj m=>?_⟩
  rw [st.er.fp t.h hj oj qj] at m
  obtain ⟨⟨x,e⟩,_⟩:=st.er.there hj oj qj m
  rw [hb] at e;cases e
end
section
variable {X:Cx} {o:Expr} {es:List Expr} {pos p pos':Pos} {fl:ROl} {k n i:Nat} {F:Ob->List D->Option D} {F':Ob->List D->Option Ob} {x:Str}
end
section
variable {X:Cx} {κ:Nat->Addr} {e o:Expr} {es:List Expr} {pos p cpos pos':Pos} {fl:ROl} {k n i:Nat} {f:List D->Option (Except Nat D)} {x y:Str} {C fa:Addr} {F:Ob->List D->Option Ob}
end
section
variable {X:Cx} {e:Expr} {pos:Pos} {f:ROd}
end
section
variable {X:Cx} {o:Expr} {es:List Expr} {pos p pos' cpos:Pos} {fl:ROl} {k n i:Nat} {F:Ob->List D->Option (D×Ob)} {x y:Str}
end
section
variable {X:Cx} {e:Expr} {pos:Pos} {fl:ROl}
noncomputable def zHs (fl:ROl):ROo:=λρ=>(fl ρ).map λxs=>.ro (.l xs)
theorem zIl (he:SF X e fl):SS X (.Return (some e) pos) (zHs fl):=ym (zJO he) λQ σ H=>by
 rintro ⟨G0,H0,G,ρ,o,st,ef,k⟩
 obtain ⟨xs,e1,rfl⟩:=zUZ.mp ef
 exact ⟨G,ρ,xs,st.bs.gh,st.er,e1,λa vs G' H' t h1 h2 h3 r=>k a G' H' (st.bs.step t) ⟨vs,h3,r⟩ λc m=>by
  cases zUf.mp m;exact ⟨h2,st.bs.hh.free h1⟩⟩
end
noncomputable def spBL (K:Fg) (f:Ob->List D->Option (List D)) (n:Nat):Sp:=λvs H Q _=>∃ G x a ds ws xs,vs = .ref a::ws/\zi G H/\At K G H x a/\Reps K G ds ws/\ds.length+1=n/\f x ds=some xs /\
 ∀ b us G' H',zd G H G' H'->H b=none->G' b=none->H' b=some (.lst us)->Reps K G' xs us->Q (.ref b) H'
noncomputable def zKi:Out->Option (List D)
 |.ro (.l xs)=>some xs
 |_=>none
noncomputable def zTk (N:List Str) (F:ROo) (a:Addr) (x:Ob) (ds:List D):Option (List D):=(F ((.b a x::ds.map Sl.v)++List.replicate (N.length-(ds.length+1)) .un)).bind zKi
theorem zRX {P:Program} {w:World} {K:Fg} {mg:MGt} {base:Heap} {x qual:Str} {st:Stmt} {fa:Addr} {fd:FuncData} {N ps:List Str} {k:Nat} {F:ROo} {f:Ob->List D->Option (List D)}
  (FF:Fun K x qual st fa fd) (S:zT N ps (zH st))
  (hbody:∀ (cdv:Value) (A:Around) (outer:List Env) (s:Shared) (H:Hp),zAO k (A.deeper (envOfC qual (zH st) s.heap.objs.size fa cdv))->SSs (zGM CX0 P w K mg base N qual (zH st) fa cdv A outer s H E0).nox (yE st) F)
  (hf:∀ a y ds d,ds.length+1=ps.length->f y ds=some d->zTk N F a y ds=some d):zCb P w K mg base CX0 (k+1) fa fd ps (spBL K f ps.length):=by
 refine FF.ok S (λvs H Q E h=>?_) (λcdv A outer s H vs Q E hr h=>?_)
 ·obtain ⟨G,y,a,ds,ws,d,rfl,_,_,r,hn,_⟩:=h
  rw [zUa,<- r.length,hn]
 ·obtain ⟨G,y,a,ds,ws,d,rfl,sm,hA,r,hn,ef,kk⟩:=h
  have h1:SSs (zGM CX0 P w K mg base N qual (zH st) fa cdv A outer s H E).nox (yE st) F:=hbody cdv A outer s H hr
  refine ⟨_,h1,?_⟩
  obtain ⟨o,e1,e2⟩:=zUX.mp (hf a y ds d hn ef)
  have er0:Er K G H (.b a y::ds.map Sl.v) ((V.ref a::ws).map some):=zGa rfl ⟨⟨hA.rep,hA.nd⟩,rfl⟩ hA.fr r
  have er:=er0.app (N.length-(ds.length+1)) (List.replicate (N.length-(ds.length+1)) none) (by simp)
  have er:Er K G H ((.b a y::ds.map Sl.v)++List.replicate (N.length-(ds.length+1)) .un) (L2.zBj N (.ref a::ws)):=by
   rw [zC2,zUa,<- r.length];exact er
  have noown:∀ (i:Nat) (u:Sl),((.b a y::ds.map Sl.v)++List.replicate (N.length-(ds.length+1)) Sl.un)[i]?=some u->u.isOwn=true->False:=λi u h1 h2=>by
   have hm:=zU3 h1
   rcases zUj.mp hm with m|m
   ·rcases zUg.mp m with z|m
    ·subst z;cases h2
    ·obtain ⟨d',_,rfl⟩:=zVA.mp m;cases h2
   ·rw [(zWH.mp m).2] at h2;cases h2
  refine ⟨G,H,G,_,o,⟨er,⟨sm,zi.refl _,zi.refl _,λb o e n=>by rw [e] at n;cases n⟩,λi u b h1 h2 h3=>(noown i u h1 h2).elim⟩,e1,?_⟩
  cases o with
  |ro s'=>
   cases s' with
   |l xs=>
    cases e2
    exact λb G' H' bs r' n=>let ⟨us,q1,q2⟩:=r';kk b us G' H' ⟨bs.gg,bs.hh,bs.gh,bs.fr⟩ (n b (zUf.mpr rfl)).2 (n b (zUf.mpr rfl)).1 q1 q2
   |_=>cases e2
  |rt d'=>cases e2
  |nx ρ=>cases e2
  |bk ρ=>cases e2
  |ct ρ=>cases e2
  |rm d ρ=>cases e2
structure zRY (P:Program) (w:World) (K:Fg) (mg:MGt) (base:Heap) (C:Addr) (k:Nat) (m:Str) (n:Nat) (F:Ob->List D->Option (List D)):Prop where
 ex:∃ f fd ps,zCb P w K mg base CX0 k f fd ps (spBL K F n)/\zQS K C m f/\L2.zAu K fd ps []
noncomputable def zJm (C:Addr) (m:Str) (i:Nat) (fl:ROl) (F:Ob->List D->Option (List D)):ROl:=λρ=>(zC0 ρ i).bind λx=>if zBQ C m x=true then (fl ρ).bind λds=>F x ds else none
section
variable {X:Cx} {o e:Expr} {es:List Expr} {pos apos:Pos} {C:Addr} {m:Str} {i k n:Nat} {F:Ob->List D->Option (List D)} {fl:ROl}
theorem zRZ {pl:Sem Bool} (i:Nat) (h:zRY X.prog X.w X.K X.mg X.base C k m n F) (c:Cls X.K C) (hr:zAO k X.A) (ho:PE X o (zBi i)) (ha:SA X (e::es) fl) (hn:(e::es).length+1=n)
  (hst:starEach (e::es) X.env=(false,eval e X.env)::starEach es X.env:=by rfl) (hpl:(backTo pos (starEach es X.env)).any (·.1)=false:=by rfl)
  (ht:eval (.Call (.Attribute o m apos) (e::es) [] pos) X.env=(do
   let ov <- eval o X.env
   standAt apos.atName
   let (f,first) <- holding [ov] (getMethod ov m pl)
   callWith pos f first (backTo pos (starEach (e::es) X.env)) (backToKw pos (keywordEach [] X.env))):=by rfl) :
  SF X (.Call (.Attribute o m apos) (e::es) [] pos) (zJm C m i fl F):=by
 obtain ⟨f,fd,ps,FO,hm,hb⟩:=h.ex
 refine zA7 (zIX (pl:=pl) (dvs:=[]) (ds:=[]) (E:=E0) ho c hm FO hr hb .nil zKX ha.pa hst hpl ht) λσ H Q zz=>?_
 obtain ⟨G,ρ,d,s,er,ef,kk⟩:=zz
 obtain ⟨x,e1,ef⟩:=zUX.mp ef
 split at ef
 ·rename_i hx
  obtain ⟨ds,e2,e3⟩:=zUX.mp ef
  obtain ⟨a,q1,A⟩:=zCF er e1
  obtain ⟨dx,ws,q2,q3⟩:=zJg A hx
  refine ⟨_,q1,a,dx,ws,rfl,q2,q3,G,ρ,ds,s,er,e2,λvs G' H' t r=>?_⟩
  show spBL X.K F n (V.ref a::(vs ++ [])) H' Q E0
  rw [zVP]
  exact ⟨G',x,a,ds,vs,d,rfl,t.s,A.step t,r,by rw [ha.len _ _ e2];exact hn,e3,λb us G2 H2 t2 h1 h2 h3 r2=>kk b us G2 H2 (t.trans t2) (t.h.free h1) h2 h3 r2⟩
 ·cases ef
end
section
variable {X:Cx} {o:Expr} {es:List Expr} {pos p np cpos:Pos} {fl:ROl} {k n:Nat} {F:Ob->List D->Option (D×Ob)} {x:Str} {A B:List Stmt} {FA FB:ROo}
end
noncomputable def zIm {α:Type} (f:Addr->Option α):Option α:=by
 classical exact if h:∃ r,∀ a,f a=some r then some h.choose else none
theorem qV {α:Type} {f:Addr->Option α} {r:α} (h:∀ a,f a=some r):zIm f=some r:=by
 have e:∃ r,∀ a,f a=some r:=⟨r,h⟩
 unfold zIm
 rw [dif_pos e]
 have:=e.choose_spec 0
 rw [h 0] at this
 exact this.symm
theorem qW {α:Type} {f:Addr->Option α} {r:α} (h:zIm f=some r):∀ a,f a=some r:=by
 unfold zIm at h
 split at h
 ·rename_i e;cases h;exact e.choose_spec
 ·cases h
noncomputable def isN (i:Nat):ROb:=λρ=>match ρ[i]? with
 |some (.v .non)=>some true
 |some (.o _ _)=>some false
 |_=>none
noncomputable def zMZ (i:Nat):ROo:=λρ=>match ρ[i]? with
 |some (.v d)=>some (.rt d)
 |some (.o c x)=>some (.ro (.o c x))
 |_=>none
noncomputable def zTl (N:List Str) (F:Rho->Option zAy) (a:Addr) (x:Ob) (ds:List D):Option (Except Nat Ob):=(F ((.o (some a) x::ds.map Sl.v)++List.replicate (N.length-(ds.length+1)) .un)).bind λo=>match o with
 |.o (.nx ρ)=>(zD3 a ρ).map .ok
 |.ex c=>some (.error c)
 |_=>none
noncomputable def zCP (C:Addr) (i:Nat) (fl:ROl) (F:Ob->List D->Option (Except Nat Ob)) (cc:Nat) (Fh:ROo):ROo:=λρ=>(fl ρ).bind λds=>(F (.ins C []) ds).bind λr=>match r with
 |.ok x=>some (.nx (ρ.set i (.o none x)))
 |.error c=>if c=cc then Fh ρ else none
noncomputable def zKj (g:D->Rho->Option Rho) (f:Rho->Option (Except Nat D)):List D->Rho->Option (Except Nat (List D))
 | [],_=>some (.ok [])
 |d::ds,ρ=>(g d ρ).bind λρ1=>(f ρ1).bind λr=>match r with
  |.ok y=>(zKj g f ds ρ).map λq=>match q with
   |.ok ys=>.ok (y::ys)
   |.error c=>.error c
  |.error c=>some (.error c)
noncomputable def zF1 (m:Nat) (fl:ROl) (g:D->Rho->Option Rho) (f:Rho->Option (Except Nat D)):Rho->Option (Except Nat (List D)):=λρ=>(fl ρ).bind λds=>if ds.length<=1000000 then zKj g f ds (ρ++List.replicate m .un) else none
noncomputable def zHt (C:Addr) (i:Nat) (f:Str) (q:Rho->Option (Except Nat (List D))):Rho->Option zAy:=λρ=>(q ρ).bind λr=>match r with
 |.ok xs=>(zC4 C i f (.v (.lst xs)) ρ).map .o
 |.error c=>some (.ex c)
section
variable {X:Cx} {e o:Expr} {pos:Pos} {st:Stmt}
theorem zOX:SS X st (λ_=>none):=ym zNk λE σ H=>by rintro ⟨_,_,_,_,_,_,ef,_⟩;cases ef
theorem zTm (i:Nat) {j} {np:Pos} (ho:PE X o (zBi i)) (hm:behindInMarks .Is (.Constant .none j np)=false:=by rfl):SB X (.Compare o [.Is] [.Constant .none j np] pos) (isN i):=
 zHU (zGK zSt ho zHW hm) λσ H Q=>by
  rintro ⟨G,ρ,b,s,er,ef,k⟩
  unfold isN at ef
  split at ef
  ·rename_i q
   cases ef
   obtain ⟨v,q1,q2⟩:=er.val i .non q
   have q2:=zAQ.mp q2
   subst q2
   exact ⟨_,q1,G,ρ,.non,s,er,rfl,λv G' H' t r=>⟨zAQ.mp r,true,by simp,k G' H' t⟩⟩
  ·rename_i c x q
   cases ef
   obtain ⟨a,q1,_⟩:=er.slot i _ q rfl
   exact ⟨_,q1,G,ρ,.non,s,er,rfl,λv G' H' t r=>⟨zAQ.mp r,false,by simp,k G' H' t⟩⟩
  ·cases ef
theorem zOY (i:Nat) (he:PE X e (zBi i)):SS X (.Return (some e) pos) (zMZ i):=ym (zJO he) λQ σ H=>by
 rintro ⟨G0,H0,G,ρ,o,st,ef,k⟩
 unfold zMZ at ef
 split at ef
 ·rename_i d q
  cases ef
  obtain ⟨v,q1,q2⟩:=st.er.val i d q
  exact ⟨v,q1,k v G H st.bs q2⟩
 ·rename_i c x q
  cases ef
  obtain ⟨a,q1,q2,q3⟩:=st.er.slot i _ q rfl
  exact ⟨_,q1,k a G H st.bs q2 λc m=>⟨q3 c m,st.ows i _ a q rfl q1 c m⟩⟩
 ·cases ef
end
section
variable {P:Program} {w:World} {K:Fg} {mg:MGt} {base:Heap} {N:List Str} {qual:Str} {scope:Scope} {f:Addr} {cd:Value} {A:Around} {outer:List Env} {s₀:Shared} {H₀:Hp} {E:XK}
theorem zF2:PassesOwn (model (cxE P w K mg base N qual scope f cd A outer s₀ H₀ E).prog (cxE P w K mg base N qual scope f cd A outer s₀ H₀ E).w) (cxE P w K mg base N qual scope f cd A outer s₀ H₀ E).A (cxE P w K mg base N qual scope f cd A outer s₀ H₀ E).env (cxE P w K mg base N qual scope f cd A outer s₀ H₀ E).xe:=PassesOwn.leaving
end
theorem zFY {e:Value} {env env':Env} (h:env.frame=env'.frame):noteFrame e env=noteFrame e env':=by
 unfold noteFrame PySem.frameOf;rw [h]
section
variable {M:Model} {A:Around} {E:VSt} {s:Shared} {bs:Heap} {env:Env} {outer:List Env} {L e:Addr} {cls a0 fl:Value}
structure zOZ (bs:Heap) (l:List Env) (e:Addr) (cls a0 fl:Value) (h:Heap):Prop where
 st:bs.StaysIn h
 no:bs.get? e=none
 ff:h.FunFrames bs l
 tr:h.TracedAtW bs e cls a0 fl
theorem zOZ.mark {l:List Env} {h:Heap} (x:zOZ bs l e cls a0 fl h):∃ oe vs T oT ts,h.get? e=some oe/\(oe.cls=cls/\vs[0]?=some a0)/\oe.data = .fields vs/\vs[1]?=some (.ref T)/\T≠e/\h.get? T=some oT/\oT.data = .fields ts/\3<ts.size/\ts[3]?=some fl /\
  ∀ u,zOZ bs l e cls a0 u (h.update T (Obj.mapFields (·.setIfInBounds 3 u)))/\∀ b o,h.get? b=some o->(∀ q,o.data≠.fields q)->(h.update T (Obj.mapFields (·.setIfInBounds 3 u))).get? b=some o:=by
 obtain ⟨oe,vs,T,oT,ts,g1,g2,g3,g4,g5,g6,g7,g8,g9⟩:=x.tr
 have sz:3<ts.size:=(Array.getElem?_eq_some_iff.mp g9).1
 refine ⟨oe,vs,T,oT,ts,g1,g2,g3,g4,g6,g7,g8,sz,g9,λu=>?_⟩
 have oth:∀ b,b≠T->(h.update T (Obj.mapFields (·.setIfInBounds 3 u))).get? b=h.get? b:=λb nb=>zWG _ _ λz=>nb z.symm
 have nT:∀ b o,h.get? b=some o->(∀ q,o.data≠.fields q)->b≠T:=λb o e n z=>by
  subst z;rw [g7] at e;cases e;exact n _ g8
 refine ⟨⟨λb o e=>?_,x.no,x.ff.of_keeps λb o e n=>⟨o,by rw [oth b (nT b o e n)];exact e,rfl⟩,oe,vs,T,_,_,?_,g2,g3,g4,g5,g6,zWp _ g7 (Obj.isFreed_of_fields (Obj.data_mapFields g8 _)),Obj.data_mapFields g8 _,by simp [sz]⟩,λb o e n=>by rw [oth b (nT b o e n)];exact e⟩
 ·rw [oth b λz=>by subst z;rw [g5] at e;cases e];exact x.st b o e
 ·rw [oth e λz=>g6 z.symm];exact g1
theorem zIn {l:Env} {h:Heap} (x:h.FunFrames bs (l::outer)):h.FunFrames bs outer:=by
 obtain ⟨_,_,k⟩:=x;exact k
theorem zEu {h h':Heap}:∀ {l:List Env},(∀ b o,b∈frs l->h.get? b=some o->h'.get? b=some o)->h.FunFrames bs l->h'.FunFrames bs l
 | [],_,_=>trivial
 |v::l,k,x=>by
  obtain ⟨x1,⟨Lv,o,y1,y2,y3,y4⟩,x3⟩:=x
  exact ⟨x1,⟨Lv,o,y1,y2,k Lv o (zU6.mpr ⟨v,zUd ..,y1⟩) y3,y4⟩,zEu (λb o m=>k b o (by
   obtain ⟨u,hu,hf⟩:=zU6.mp m
   exact zU6.mpr ⟨u,zUY _ hu,hf⟩)) x3⟩
theorem zMa (hfr:A.frames=some (env::outer)) (hf:env.frame=some L) (x:zOZ bs (env::outer) e cls a0 fl s.heap) {Q:Unit->Shared->Prop}
  (hQ:∀ h',Heap.FlyingW bs outer e cls a0 h'->s.heap.UpToSlots h'->Q () { s with heap:=h' }):wpAny M A (leaving env (.ref e)) Q E s:=by
 have land:∀ (h1:Heap) (f1:Value),zOZ bs (env::outer) e cls a0 f1 h1->s.heap.UpToSlots h1->wpAny M A (setFlight (.ref e) none) Q E { s with heap:=h1 }:=λh1 f1 y up=>
  wpAny_setFlight_noneW (s:={ s with heap:=h1 }) y.st y.ff y.tr λh' k1 k2 k3 k4=>hQ h' ⟨k1,y.no,zIn k2,k3⟩ (up.trans λb o z n=>⟨o.slots,k4 b o z n⟩)
 obtain ⟨oe,vs,T,oT,ts,g1,g2,g3,g4,g6,g7,g8,sz,g9,mk⟩:=x.mark
 unfold leaving
 refine zUe ?_
 unfold noteFrame
 simp only [hf]
 refine zUe (zWm g1 g3 g4 ?_)
 rw [zUp (by simp)]
 refine zUe (zWm g7 g8 g9 ?_)
 by_cases c:(fl == rawInt L)=true
 ·rw [zUp c]
  exact zUl (land s.heap fl x (Heap.UpToSlots.refl _))
 ·rw [zVD c]
  obtain ⟨y,keep⟩:=mk .none
  refine zUe (wpAny_setField g7 g8 sz ?_)
  have ge:(s.heap.update T (Obj.mapFields (·.setIfInBounds 3 .none))).get? e=some oe:=by rw [zWG _ _ g6];exact g1
  refine wpAny_entryW (s:={ s with heap:=s.heap.update T (Obj.mapFields (·.setIfInBounds 3 .none)) }) hfr y.ff hf ge y.st y.no g3 (Array.getElem?_eq_some_iff.mp g4).1 g2.2 λh' nt=>?_
  obtain ⟨n1,n2,n3,n4⟩:=nt
  rw [g2.1] at n3
  exact land h' _ ⟨n1,y.no,n2,n3⟩ λb o z n=>n4 b o (keep b o z n) n
theorem zOa {α:Type} {what:String} {cenv:Env} {l:List Env} (x:zOZ bs l e cls a0 fl s.heap) {Q:α->Shared->Prop}
  (hE:∀ h' fl',zOZ bs l e cls a0 fl' h'->(∀ b o,s.heap.get? b=some o->(∀ q,o.data≠.fields q)->h'.get? b=some o)->E (.ref e) { s with heap:=h' }):wpAny M A (PySem.passOn what (.ref e) cenv:Sem α) Q E s:=by
 obtain ⟨oe,vs,T,oT,ts,g1,g2,g3,g4,g6,g7,g8,sz,g9,mk⟩:=x.mark
 unfold PySem.passOn
 refine zUe (zWm g1 g3 g4 ?_)
 rw [zVD (by simp)]
 refine zUe ?_
 unfold setFlight
 refine zUe (zWm g1 g3 g4 ?_)
 rw [zUp (by simp)]
 refine wpAny_setField g7 g8 sz (wpAny_throw ?_)
 obtain ⟨y,keep⟩:=mk (cenv.frame.elim .none λf=>rawInt f)
 exact hE _ _ y keep
end
noncomputable def zCQ (g:D->Rho->Option Rho) (p:ROb) (f:Rho->Option (Except Nat D)):List D->Rho->Option (Except Nat (List D))
 | [],_=>some (.ok [])
 |d::ds,ρ=>(g d ρ).bind λρ1=>(p ρ1).bind λb=>if b=true then (f ρ1).bind λr=>match r with
   |.ok y=>(zCQ g p f ds ρ).map λq=>match q with
    |.ok ys=>.ok (y::ys)
    |.error c=>.error c
   |.error c=>some (.error c)
  else zCQ g p f ds ρ
theorem zJn {g:D->Rho->Option Rho} {f:Rho->Option (Except Nat D)} {ρ:Rho}:∀ ds:List D,zCQ g (λ_=>some true) f ds ρ=zKj g f ds ρ
 | []=>rfl
 |d::ds=>by
  rw [zCQ,zKj,zJn ds]
  rfl
theorem zGh {g:D->Rho->Option Rho} {p:ROb} {f:ROd} {ρ:Rho}:∀ {ds ys:List D},zP g p f ds ρ=some ys->zCQ g p (λρ=>(f ρ).map .ok) ds ρ=some (.ok ys)
 | [],_,h=>by cases h;rfl
 |d::ds,ys,h=>by
  obtain ⟨ρ1,e1,h⟩:=zUX.mp h
  obtain ⟨b,e2,h⟩:=zUX.mp h
  rw [zCQ,e1,zUb,e2,zUb]
  cases b with
  |false=>rw [zVD zU7] at h ⊢;exact zGh h
  |true=>
   rw [zUp rfl] at h ⊢
   obtain ⟨x,e3,h⟩:=zUX.mp h
   obtain ⟨zs,e4,rfl⟩:=zUZ.mp h
   rw [e3,zUx,zUb]
   simp only [zGh e4,zUx]
noncomputable def zTn (zs:List D):Except Nat (List D)->Except Nat (List D)
 |.ok ys=>.ok (zs++ys)
 |.error c=>.error c
section
variable {X:Cx} {tg iter elt:Expr} {scope:Scope} {pos:Pos} {nm:List Str} {fl:ROl} {gd:D->Rho->Option Rho} {f:Rho->Option (Except Nat D)} {κ:Nat->Addr} {W:XK}
theorem zF3 {ifs:List Expr} {p:ROb} {pins:PNt} {σ:L2.St} {H G:Hp} {s:Shared} {ρ:Rho} {ds:List D} {r:Except Nat (List D)} {J:It} {fp:List Addr} {it:Addr} {tn:Nat->Heap->Prop} {E:VSt} {RR:Value->Addr->Result->Shared->Prop}
  (hc:X.calm=true) (hk:scope.kind = .function) (hok:zAV X.N nm scope.names X.env.scope.names=true) (hkg:zBu X.N.length gd)
  (hg:∀ C s₃ H₃ ex,SG (zk X nm scope C s₃ H₃ ex) tg gd) (ht:∀ C s₃ H₃ ex,STs (zk X nm scope C s₃ H₃ ex) ifs p) (he:∀ (C:Addr) (s₃:Shared) (H₃:Hp) (ex:List Addr) (EE:VSt),zBb (CXE X.prog X.w) ((zk X nm scope C s₃ H₃ ex).wish EE) W->PE ((zk X nm scope C s₃ H₃ ex).wish EE) elt (tCx X.K κ W f)) (hex:∀ u o H',W u o H'->X.ex = [])
  (I:Inv X pins σ H s) (T:zQL X.prog X.w X.K tg J fp it tn) (h0:tn 0 s.heap) (hfp:∀ b∈fp,FpOk X pins H b) (sm:zi G H) (er:Er X.K G H ρ σ) (iter':zNe X.K G J ds) (hl:ds.length<=1000000)
  (hys:zCQ gd p f ds (ρ++List.replicate nm.length .un)=some r)
  (hW:∀ c,r = .error c->∀ G' H',zd G H G' H'->W (.ref (κ c)) none H')
  (hRR:∀ ys,r = .ok ys->∀ (D C:Addr) (s':Shared) (H' G':Hp) (vs:List V) (m':MGt),Inv X pins σ H' s'->zd G H G' H'->H D=none->G' D=none->H' D=some (.lst vs)->Reps X.K G' ys vs->s'.heap.Ns C m'->H' C=none->C≠X.env.locals ->
   X.s₀.heap.objs.size<=C->(∀ x c,X.env.cells.lookup x=some c->c≠C)->(∀ p∈X.pn++pins,p.1≠C)->RR (.ref D) C (.ok .next) s')
  (hERR:∀ (acc:Value) (C:Addr) (s':Shared) (H':Hp) (x T' C0:Addr) (m':MGt),Inv X pins σ H' s'->Fly X.stack x T' (.ref C0) s'.heap->X.s₀.heap.get? x=none->X.s₀.heap.get? T'=none->H' x=none->H' T'=none->W (.ref C0) none H'->s'.heap.Ns C m'->H' C=none->C≠X.env.locals ->
   X.s₀.heap.objs.size<=C->(∀ x c,X.env.cells.lookup x=some c->c≠C)->(∀ p∈X.pn++pins,p.1≠C)->x≠C->T'≠C->notedBy (model X.prog X.w) X.A (compEnvC scope (zEc scope.names X.env.cells) C X.env) (λe s''=>RR acc C (.error e) s'') (.ref x) s') :
  wpAny (model X.prog X.w) X.A (newList []) (λacc s₃=>wpAny (model X.prog X.w) X.A (newFunctionEnv scope X.env.globals (zEc scope.names X.env.cells) [] X.env.qual none .none (some X.env)) (λcenv s₄=>
   codeAny (model X.prog X.w) X.A (.compStart (.ListComp elt [⟨tg,iter,ifs,0⟩] scope pos) 0 (.ref it) acc { cenv with scope:=relabel scope X.env }) (RR acc cenv.locals) s₄) E s₃) E s:=by
 have hfplt:∀ b∈fp,b<s.heap.objs.size:=λb hb=>by
  obtain ⟨o,e,_⟩:=T.obj 0 s.heap h0 b hb
  exact zUo e
 refine zWQ ?_
 have I₃:Inv X pins σ (upd H s.heap.objs.size (.lst [])) { s with heap:=s.heap.push { cls:=.type "list",data:=.seq ([]:List Value).toArray } }:=I.lnew (t':=s.toks) (ys:=[]) (its:=[]) .nil (zV7 _)
 have nD:H s.heap.objs.size=none:=I.fresh
 generalize hs₃:({ s with heap:=s.heap.push { cls:=.type "list",data:=.seq ([]:List Value).toArray } }:Shared)=s₃ at I₃ ⊢
 have hsz3:s₃.heap.objs.size=s.heap.objs.size+1:=by rw [<- hs₃];exact zWn ..
 have hfp3:∀ b∈fp,FpOk X pins (upd H s.heap.objs.size (.lst [])) b:=λb hb=>⟨by rw [zK (zU0 (hfplt b hb))];exact (hfp b hb).1,(hfp b hb).2⟩
 have hlt3:∀ b∈fp,b<s₃.heap.objs.size:=λb hb=>by rw [hsz3];exact Nat.lt_succ_of_lt (hfplt b hb)
 have st3:tn 0 s₃.heap:=T.keep 0 s.heap _ h0 λb hb o e=>by rw [<- hs₃];exact zUk _ e
 refine wpAny_newFunctionEnv (λy hy=>(yp hok hy).1) (by intro y hy;simp at hy) (λh₁ hns₁ hsb₁=>?_) hk
 have keep:∀ b o,s₃.heap.get? b=some o->h₁.get? b=some o:=λb o e=>hsb₁.extBut b o (zU0 (zUo e)) (zUk _ e)
 have I4:=zKb (nm:=nm) (scope:=scope) (tk:=s₃.toks+([]:List (Str×Value)).length) I₃ hk hok hfp3 hlt3 hns₁ keep
 have st4:tn 0 h₁:=T.keep 0 _ _ st3 λb hb o e=>keep b o e
 generalize hs₄:({ s₃ with heap:=h₁,toks:=s₃.toks+([]:List (Str×Value)).length }:Shared)=s₄ at I4
 have st4':tn 0 s₄.heap:=by rw [<- hs₄];exact st4
 show codeAny _ _ (.compStart _ 0 (.ref it) (.ref s.heap.objs.size) (compEnvC scope (zEc scope.names X.env.cells) s₃.heap.objs.size X.env)) (RR (.ref s.heap.objs.size) s₃.heap.objs.size) s₄
 have hb3:∀ b∈fp,FpOk (zk X nm scope s₃.heap.objs.size s₃ (upd H s.heap.objs.size (.lst [])) fp) [] (upd H s.heap.objs.size (.lst [])) b:=λb hb=>
  ⟨(hfp3 b hb).1,(I4.ok.exf b hb).1,λz=>I4.ok.exfs b hb z,.inl hb,(I4.ok.exf b hb).2,λp hp=>(by simp [zk] at hp)⟩
 have stat:∀ {H':Hp},(∀ b∈fp,H' b=none)->∀ b∈fp,FpOk (zk X nm scope s₃.heap.objs.size s₃ (upd H s.heap.objs.size (.lst [])) fp) [] H' b:=λhn b hb=>⟨hn b hb,(hb3 b hb).2⟩
 have hr:ρ.length=X.N.length:=by rw [er.len,I.len]
 have loop:codeAny (model X.prog X.w) X.A (.compLoop (.ListComp elt [⟨tg,iter,ifs,0⟩] scope pos) 0 (.ref it) (.ref s.heap.objs.size) (compEnvC scope (zEc scope.names X.env.cells) s₃.heap.objs.size X.env)) (RR (.ref s.heap.objs.size) s₃.heap.objs.size) s₄:=by
  refine zHe (λn s'=>∃ i σ' H1 G1 zs vs rest,n=ds.length-i/\i<=ds.length/\Inv (zk X nm scope s₃.heap.objs.size s₃ (upd H s.heap.objs.size (.lst [])) fp) [] σ' H1 s'/\tn i s'.heap/\(∀ b∈fp,H1 b=none) /\
    zd G H G1 H1/\Er X.K G1 H1 (ρ++List.replicate nm.length .un) σ'/\zEe H1 (ρ++List.replicate nm.length .un) σ' s.heap.objs.size/\G1 s.heap.objs.size=none/\H1 s.heap.objs.size=some (.lst vs)/\Reps X.K G1 zs vs/\zs.length<=i /\
    zCQ gd p f (ds.drop i) (ρ++List.replicate nm.length .un)=some rest/\r=zTn zs rest) ?_ ds.length
   ⟨0,_,_,G,[],[],r,by simp,zV7 _,I4,st4',λb hb=>(hfp3 b hb).1,zd.newH sm nD,(er.step (zd.newH sm nD)).app nm.length _ (by simp),((zEe.new er nD).grow er (yj nD)).app er,sm.free nD,zM,Reps.nil,zUn _,by simpa using hys,by cases r<;>rfl⟩
  rintro n s5 ⟨i,σ5,H5,G5,zs,vs,rest,rfl,hi,I5,st5,fr5,t5,er5,nd5,gD5,hD5,rz5,lz5,ec5,ey5⟩
  by_cases hlt:i<ds.length
  ·have ed:ds.drop i=ds[i]::ds.drop (i+1):=zV6 hlt
   rw [ed] at ec5
   obtain ⟨ρ6,e6,ec5⟩:=zUX.mp ec5
   obtain ⟨b6,e7,ec5⟩:=zUX.mp ec5
   refine zVM (T.item (zk X nm scope s₃.heap.objs.size s₃ (upd H s.heap.objs.size (.lst [])) fp) rfl rfl rfl hc i [] s5 σ5 H5 (notedBy (model X.prog X.w) X.A _ λe s'=>RR (.ref s.heap.objs.size) s₃.heap.objs.size (.error e) s') I5 (stat fr5) st5 (iter'.go i H5 (t5.g.trans t5.s) hlt)) (λr s6 zz=>?_) λ_ _ z=>z
   obtain ⟨u,hr6,h6⟩:=zz
   subst hr6
   refine zVM h6 (λ_ s7 zz=>?_) λ_ _ z=>z
   obtain ⟨x7,H7,I7,rx7,y7,st7,fr7⟩:=zz
   obtain ⟨G7,t7,r7⟩:=iter'.yld i G5 H5 x7 H7 t5.g t5.s hlt y7
   have I7':=I7.pinned (stat fr7) (T.obj _ _ st7)
   have er7:=er5.step t7
   have hx:(zk X nm scope s₃.heap.objs.size s₃ (upd H s.heap.objs.size (.lst [])) fp).xe=λ_ _=>False:=rfl
   obtain ⟨k1,k2,k3⟩:=hkg _ _ _ e6
   rw [<- hr] at k2
   have nd7:=nd5.grow er5 t7.h
   have hgr:=hg s₃.heap.objs.size s₃ (upd H s.heap.objs.size (.lst [])) fp _ s7 σ5 H7 x7 u (λσ8 H8=>H8=H7/\Er X.K G7 H7 ρ6 σ8/\zEe H7 ρ6 σ8 s.heap.objs.size) I7' rx7
    ⟨G7,qt H7 _ σ5,G7,_,ds[i],ρ6,er7.toSt t7.s,r7 _ (by simp [hlt]),e6,λσ8 st8=>⟨rfl,st8.er,zN8 er7 nd7 st8 k3 (t7.h _ _ hD5)⟩⟩
   refine zVM hgr (λ_ s8 ⟨σ8,H8,I8,e8,er8,nd8⟩=>?_) λ_ _ z=>(by rw [hx] at z;exact z.elim)
   subst e8
   have again:∀ {G9 H9:Hp} {s9:Shared} {zs':List D} {vs':List V} {rest':Except Nat (List D)},Inv (zk X nm scope s₃.heap.objs.size s₃ (upd H s.heap.objs.size (.lst [])) fp) ([]++zHF fp s7.heap) σ8 H9 s9->zd G H G9 H9->Er X.K G9 H9 ρ6 σ8->zEe H9 ρ6 σ8 s.heap.objs.size->G9 s.heap.objs.size=none->H9 s.heap.objs.size=some (.lst vs')->Reps X.K G9 zs' vs' ->
     zs'.length<=i+1->zCQ gd p f (ds.drop (i+1)) (ρ++List.replicate nm.length .un)=some rest'->r=zTn zs' rest'->∃ m,m<ds.length-i/\∃ i σ' H1 G1 zs vs rest,m=ds.length-i/\i<=ds.length/\Inv (zk X nm scope s₃.heap.objs.size s₃ (upd H s.heap.objs.size (.lst [])) fp) [] σ' H1 s9/\tn i s9.heap/\(∀ b∈fp,H1 b=none) /\
    zd G H G1 H1/\Er X.K G1 H1 (ρ++List.replicate nm.length .un) σ'/\zEe H1 (ρ++List.replicate nm.length .un) σ' s.heap.objs.size/\G1 s.heap.objs.size=none/\H1 s.heap.objs.size=some (.lst vs)/\Reps X.K G1 zs vs/\zs.length<=i /\
    zCQ gd p f (ds.drop i) (ρ++List.replicate nm.length .un)=some rest/\r=zTn zs rest:=λ{G9 H9 s9 zs' vs' rest'} I9 t9 er9 n9 g9 h9 r9 l9 c9 y9=>by
    refine ⟨ds.length-(i+1),by omega,i+1,σ8,H9,G9,zs',vs',rest',rfl,hlt,I9.unpinned,T.keep _ _ _ st7 λb hb o e=>(I9.pin (b,o) (zUt _ (zUt _ (zCA hb e)))).1,λb hb=>?_,t9,er9.drop k1 k2,n9.drop k2,g9,h9,r9,l9,c9,y9⟩
    obtain ⟨o,e,d⟩:=T.obj _ _ st7 b hb
    exact (I9.pin (b,o) (zUt _ (zUt _ (zCA hb e)))).2.1
   refine zL0 (X:=zk X nm scope s₃.heap.objs.size s₃ (upd H s.heap.objs.size (.lst [])) fp) hx (ht s₃.heap.objs.size s₃ (upd H s.heap.objs.size (.lst [])) fp) I8 t7.s er8 e7 λG9 H9 s9 I9 t9=>?_
   have tt:=(t5.trans t7).trans t9
   have gD9:G9 s.heap.objs.size=none:=by
    cases q:G9 s.heap.objs.size with
    |none=>rfl
    |some o=>
     have:=(t7.trans t9).f _ o q gD5
     rw [hD5] at this;cases this
   have hD9:H9 s.heap.objs.size=some (.lst vs):=(t7.trans t9).h _ _ hD5
   cases b6 with
   |false=>
    rw [zVD zU7] at ec5 ⊢
    exact again I9 tt (er8.step t9) (nd8.grow er8 t9.h) gD9 hD9 (Reps.mono (t7.trans t9).g _ _ rz5) (by omega) ec5 ey5
   |true=>
   rw [zUp rfl] at ec5 ⊢
   obtain ⟨rr,e10,ec5⟩:=zUX.mp ec5
   have hP:zBb (CXE X.prog X.w) ((zk X nm scope s₃.heap.objs.size s₃ (upd H s.heap.objs.size (.lst [])) fp).wish λe s'=>∃ pins' σ' Hs s0,Inv (zk X nm scope s₃.heap.objs.size s₃ (upd H s.heap.objs.size (.lst [])) fp) pins' σ' Hs s0/\CXE X.prog X.w X.stack Hs s0 W e s') W:=λpins' σ' Hs s0 e s' J h=>⟨pins',σ',Hs,s0,J.unwish,h⟩
   have her:=he s₃.heap.objs.size s₃ (upd H s.heap.objs.size (.lst [])) fp _ hP
   have bad:∀ e s',(∃ pins' σ' Hs s0,Inv (zk X nm scope s₃.heap.objs.size s₃ (upd H s.heap.objs.size (.lst [])) fp) pins' σ' Hs s0/\CXE X.prog X.w X.stack Hs s0 W e s')->notedBy (model X.prog X.w) X.A (compEnvC scope (zEc scope.names X.env.cells) s₃.heap.objs.size X.env) (λe s''=>RR (.ref s.heap.objs.size) s₃.heap.objs.size (.error e) s'') e s':=λe s' z=>by
    obtain ⟨pins',σ',Hs,s0,J0,x,T',C0,H',rfl,os,bare,un,hok',fly,nx,nT,hx',hT',hE⟩:=z
    have Iout0:Inv X pins σ Hs s0:=I₃.call' (ch:=fp) J0.os J0.base J0.hok J0.bare λb hb=>⟨(hfp b hb).2.2.2.1,(hfp b hb).2.1,(hfp b hb).2.2.2.2.1,(hfp b hb).2.2.2.2.2⟩
    have Iout:Inv X pins σ H' s':=Iout0.call' os un hok' bare λb m=>absurd m (by simp)
    have J1:Inv (zk X nm scope s₃.heap.objs.size s₃ (upd H s.heap.objs.size (.lst [])) fp) pins' σ' H' s':=J0.call' os un hok' bare λb m=>absurd m (by simp)
    obtain ⟨m0,hn0,_⟩:=J0.loc
    obtain ⟨m1,hn1,_⟩:=J1.loc
    have there:∃ o,s0.heap.get? s₃.heap.objs.size=some o:=by obtain ⟨o,_,_,q,_⟩:=hn0;exact ⟨o,q⟩
    obtain ⟨oC,hC0⟩:=there
    have old:∀ b,s0.heap.get? b=none->X.s₀.heap.get? b=none:=λb n=>by
     cases q:X.s₀.heap.get? b with
     |none=>rfl
     |some o=>
      obtain ⟨o',q'⟩:=Iout0.base.there b o q (by rw [hex _ _ _ hE];simp)
      rw [n] at q';cases q'
    exact hERR (.ref s.heap.objs.size) s₃.heap.objs.size s' H' x T' C0 m1 Iout fly (old x nx) (old T' nT) hx' hT' hE hn1 J1.free (zW7 I₃.lt) I₃.sz (λx c e=>zU0 (by obtain ⟨v,q⟩:=I₃.cell x c e;exact q.lt)) (λp hp=>zU0 (zUo (I₃.pin p hp).1)) (λz=>by subst z;rw [nx] at hC0;cases hC0) (λz=>by subst z;rw [nT] at hC0;cases hC0)
   cases rr with
   |error c=>
    simp only [zWN] at ec5
    have er':r = .error c:=by rw [ey5,<- ec5];rfl
    have her:=her _ s9 σ8 H9 (λ_ _=>False) (I9.wish _) ⟨G9,ρ6,_,t9.s,er8.step t9,e10,λG' H' t=>hW c er' G' H' (tt.trans t)⟩
    refine zVM her (λuy s10 ⟨vy,H10,I10,rvy,z⟩=>z.elim) λe s' z=>?_
    exact bad e s' z
   |ok y=>
    obtain ⟨rest',e11,ec5⟩:=zUZ.mp ec5
    have her:=her _ s9 σ8 H9 (λv H'=>∃ G',zd G9 H9 G' H'/\Rep X.K G' y v) (I9.wish _) ⟨G9,ρ6,_,t9.s,er8.step t9,e10,λv G' H' t r=>⟨G',t,r⟩⟩
    refine zVM her (λuy s10 ⟨vy,H10,I10,rvy,G10,t10,ry⟩=>?_) λe s' z=>?_
    ·have I10:=I10.unwish
     have gD10:G10 s.heap.objs.size=none:=by
      cases q:G10 s.heap.objs.size with
      |none=>rfl
      |some o=>
       have:=t10.f _ o q gD9
       rw [hD9] at this;cases this
     have hD10:H10 s.heap.objs.size=some (.lst vs):=t10.h _ _ hD9
     have tt10:=tt.trans t10
     have lv:vs.length=zs.length:=rz5.length.symm
     have hap:=zBs (X:=zk X nm scope s₃.heap.objs.size s₃ (upd H s.heap.objs.size (.lst [])) fp) _ s10 σ8 H10 (.ref s.heap.objs.size) [vy] (.ref s.heap.objs.size) [uy] (λ_ H'=>H'=upd H10 s.heap.objs.size (.lst (vs ++ [vy]))) I10 rfl (.cons rvy .nil)
      ⟨s.heap.objs.size,vs,vy,rfl,rfl,hD10,zUm (by omega:vs.length<1000001) (by decide),rfl⟩
     refine zVM hap (λ_ s11 ⟨_,H11,I11,_,e11'⟩=>?_) λ_ _ z=>(by rw [hx] at z;exact z.elim)
     subst e11'
     have sG:zi G10 (upd H10 s.heap.objs.size (.lst (vs ++ [vy]))):=λb o e=>by
      rw [zK (λz=>by rw [z,gD10] at e;cases e)];exact t10.s b o e
     have t11:zd G H G10 (upd H10 s.heap.objs.size (.lst (vs ++ [vy]))):=⟨tt10.g,λb o e=>by rw [zK (yq e nD)];exact tt10.h b o e,sG,tt10.f⟩
     have nd10:zEe H10 ρ6 σ8 s.heap.objs.size:=(nd8.grow er8 t9.h).grow (er8.step t9) t10.h
     have er11:Er X.K G10 (upd H10 s.heap.objs.size (.lst (vs ++ [vy]))) ρ6 σ8:=((er8.step t9).step t10).updOther nd10
     exact again I11 t11 er11 (nd10.upd ((er8.step t9).step t10)) gD10 zM ((Reps.mono ((t7.trans t9).trans t10).g _ _ rz5).append (Reps.cons ry Reps.nil)) (by simp only [zUr,zUa,zUq];omega) e11 (by rw [ey5,<- ec5];cases rest'<;>simp [zTn])
    ·exact bad e s' z
  ·have e:i=ds.length:=by omega
   subst e
   rw [List.drop_length] at ec5
   cases ec5
   simp only [zTn,zVP] at ey5
   refine zVM (T.done (zk X nm scope s₃.heap.objs.size s₃ (upd H s.heap.objs.size (.lst [])) fp) rfl rfl rfl hc _ [] s5 σ5 H5 (notedBy (model X.prog X.w) X.A _ λe s'=>RR (.ref s.heap.objs.size) s₃.heap.objs.size (.error e) s') I5 (stat fr5) st5 (iter'.stop _ H5 (t5.g.trans t5.s) (zUn _))) (λr s6 zz=>?_) λ_ _ z=>z
   obtain ⟨hr6,I6⟩:=zz
   subst hr6
   have Iout:Inv X pins σ H5 s6:=I₃.call' (ch:=fp) I6.os I6.base I6.hok I6.bare λb hb=>⟨(hfp b hb).2.2.2.1,(hfp b hb).2.1,(hfp b hb).2.2.2.2.1,(hfp b hb).2.2.2.2.2⟩
   obtain ⟨m6,hn6,_⟩:=I6.loc
   exact hRR zs ey5 s.heap.objs.size s₃.heap.objs.size s6 H5 G5 vs m6 Iout t5 nD gD5 hD5 rz5 hn6 I6.free (zW7 I₃.lt) I₃.sz (λx c e=>zU0 (by obtain ⟨v,q⟩:=I₃.cell x c e;exact q.lt)) λp hp=>zU0 (zUo (I₃.pin p hp).1)
 exact codeAny_compStart_list loop (T.self _ 0 s₄ _ _ st4' loop)
theorem zHu {ifs:List Expr} {p:ROb} {f:ROd} {pins:PNt} {σ:L2.St} {H G:Hp} {s:Shared} {ρ:Rho} {ds ys:List D} {J:It} {fp:List Addr} {it:Addr} {tn:Nat->Heap->Prop} {E:VSt} {RR:Value->Addr->Result->Shared->Prop}
  (hc:X.calm=true) (hk:scope.kind = .function) (hok:zAV X.N nm scope.names X.env.scope.names=true) (hkg:zBu X.N.length gd)
  (hg:∀ C s₃ H₃ ex,SG (zk X nm scope C s₃ H₃ ex) tg gd) (ht:∀ C s₃ H₃ ex,STs (zk X nm scope C s₃ H₃ ex) ifs p) (he:∀ C s₃ H₃ ex,SE (zk X nm scope C s₃ H₃ ex) elt f)
  (I:Inv X pins σ H s) (T:zQL X.prog X.w X.K tg J fp it tn) (h0:tn 0 s.heap) (hfp:∀ b∈fp,FpOk X pins H b) (sm:zi G H) (er:Er X.K G H ρ σ) (iter':zNe X.K G J ds) (hl:ds.length<=1000000)
  (hys:zP gd p f ds (ρ++List.replicate nm.length .un)=some ys)
  (hRR:∀ (D C:Addr) (s':Shared) (H' G':Hp) (vs:List V) (m':MGt),Inv X pins σ H' s'->zd G H G' H'->H D=none->G' D=none->H' D=some (.lst vs)->Reps X.K G' ys vs->s'.heap.Ns C m'->H' C=none->C≠X.env.locals ->
   X.s₀.heap.objs.size<=C->(∀ x c,X.env.cells.lookup x=some c->c≠C)->(∀ p∈X.pn++pins,p.1≠C)->RR (.ref D) C (.ok .next) s') :
  wpAny (model X.prog X.w) X.A (newList []) (λacc s₃=>wpAny (model X.prog X.w) X.A (newFunctionEnv scope X.env.globals (zEc scope.names X.env.cells) [] X.env.qual none .none (some X.env)) (λcenv s₄=>
   codeAny (model X.prog X.w) X.A (.compStart (.ListComp elt [⟨tg,iter,ifs,0⟩] scope pos) 0 (.ref it) acc { cenv with scope:=relabel scope X.env }) (RR acc cenv.locals) s₄) E s₃) E s:=by
 refine zF3 (κ:=λ_=>0) (W:=λ_ _ _=>False) (f:=λρ=>(f ρ).map .ok) hc hk hok hkg hg ht (λC s₃ H₃ ex EE _=>?_) (λ_ _ _ z=>z.elim) I T h0 hfp sm er iter' hl (zGh hys) (λc z=>by cases z) (λys' z=>by cases z;exact hRR) λ_ _ _ _ _ _ _ _ _ _ _ _ _ _ z=>z.elim
 intro pins s σ H Q I h
 obtain ⟨G,ρ,r,s',er,ef,k⟩:=h
 obtain ⟨d,e1,rfl⟩:=zUZ.mp ef
 exact zVM (he C s₃ H₃ ex pins s σ H Q I.unwish ⟨G,ρ,d,s',er,e1,k⟩) (λu s2 ⟨v,H2,I2,q⟩=>⟨v,H2,I2.wish _,q⟩) λ_ _ z=>z.elim
end
noncomputable def tCF (K:Fg) (κ:Nat->Addr) (W:XK) (g:Rho->Option (Except Nat (List D))):TE:=λσ H Q=>∃ G ρ r,zi G H/\Er K G H ρ σ/\g ρ=some r/\match r with
 |.ok ys=>∀ a vs G' H',zd G H G' H'->H a=none->G' a=none->H' a=some (.lst vs)->Reps K G' ys vs->Q (.ref a) H'
 |.error c=>∀ G' H',zd G H G' H'->W (.ref (κ c)) none H'
section
variable {P:Program} {w:World} {K:Fg} {mg:MGt} {base:Heap} {N:List Str} {qual:Str} {scp:Scope} {fa:Addr} {cd:Value} {A:Around} {outer:List Env} {s₀:Shared} {H₀:Hp} {E:XK} {tg iter elt o:Expr} {scope:Scope} {pos pos' spos:Pos} {nm:List Str} {fl:ROl} {gd:D->Rho->Option Rho} {g:Rho->Option (Except Nat D)} {κ:Nat->Addr} {C:Addr} {fld:Str}
theorem zOb {m:Nat} (hm:nm.length=m) (hk:scope.kind = .function) (hok:zAV N nm scope.names scp.names=true) (hi:SI (cxE P w K mg base N qual scp fa cd A outer s₀ H₀ E) tg iter fl) (hkg:zBu N.length gd)
  (hg:∀ C s₃ H₃ ex,SG (zk (cxE P w K mg base N qual scp fa cd A outer s₀ H₀ E) nm scope C s₃ H₃ ex) tg gd) (he:∀ (C:Addr) (s₃:Shared) (H₃:Hp) (ex:List Addr) (EE:VSt),zBb (CXE P w) ((zk (cxE P w K mg base N qual scp fa cd A outer s₀ H₀ E) nm scope C s₃ H₃ ex).wish EE) E->PE ((zk (cxE P w K mg base N qual scp fa cd A outer s₀ H₀ E) nm scope C s₃ H₃ ex).wish EE) elt (tCx K κ E g))
  (hs:∀ x,foldedSetIterable iter (cxE P w K mg base N qual scp fa cd A outer s₀ H₀ E).env x=pure x:=by intro _;rfl):PE (cxE P w K mg base N qual scp fa cd A outer s₀ H₀ E) (.ListComp elt [⟨tg,iter,[],0⟩] scope pos) (tCF K κ E (zF1 m fl gd g)):=by
 intro pins s σ H Q I h
 obtain ⟨G,ρ,r,sm,er,ef,k⟩:=h
 obtain ⟨ds,e1,e2⟩:=zUX.mp ef
 split at e2
 ·rename_i hl
  subst hm
  have hok':zAV (cxE P w K mg base N qual scp fa cd A outer s₀ H₀ E).N nm scope.names (cxE P w K mg base N qual scp fa cd A outer s₀ H₀ E).env.scope.names=true:=hok
  have hclos:closureFor scope (cxE P w K mg base N qual scp fa cd A outer s₀ H₀ E).env=pure (zEc scope.names (cxE P w K mg base N qual scp fa cd A outer s₀ H₀ E).env.cells):=zBP λy hy hf=>I.ok.has y.1 ((yp hok' hy).2.2.2 hf)
  rw [eval_ListComp]
  refine zWY (use:=none) rfl hs hclos hk (λy hy=>(yp hok' hy).2.2.1) (thn (hi pins s σ H _ I ⟨G,ρ,ds,sm,er,e1,λJ G' H' t it=>(⟨G',t,it⟩:∃ G',zd G H G' H'/\zNe K G' J ds)⟩) λv s1 h1=>thn h1 λitv s2 h2=>?_)
  obtain ⟨it,fp,tn,J,H2,rfl,I2,T,st2,f2,G2,t2,it2⟩:=h2
  refine zF3 (X:=(cxE P w K mg base N qual scp fa cd A outer s₀ H₀ E)) (W:=E) (κ:=κ) (RR:=λacc C=>compPost (model P w) (cxE P w K mg base N qual scp fa cd A outer s₀ H₀ E).A (cxE P w K mg base N qual scp fa cd A outer s₀ H₀ E).xe none (EP (cxE P w K mg base N qual scp fa cd A outer s₀ H₀ E) pins σ Q) acc C) rfl hk hok' hkg hg (λ_ _ _ _=>.inl ⟨rfl,rfl⟩) he (λ_ _ _ _=>rfl) I2 T st2 f2 t2.s (er.step t2) it2 hl ((zJn ds).trans e2) (λc hc G' H' t=>?_) (λys hy D C s' H' G' vs m' I' t' nD gD hD rD hn hC1 hC2 hC3 hC4 hC5=>?_) λacc C s' H' x T' C0 m' I' fly nx nT hx hT hE hn hC1 hC2 hC3 hC4 hC5 xC TC=>?_
  ·subst hc;exact k G' H' (t2.trans t)
  ·subst hy
   refine ⟨m',hn,λh' hs'=>⟨.ref D,H',?_,rfl,k D vs G' H' (t2.trans t') (t2.h.free nD) gD hD rD⟩⟩
   exact I'.turned (t':=s'.toks) (λb o hb e=>hs'.extBut b o hb e) hC1 hC2 (.inr hC3) hC4 hC5
  ·obtain ⟨a0,f1,f2',f3,f4⟩:=fly
   have frm:(cxE P w K mg base N qual scp fa cd A outer s₀ H₀ E).A.frames=some ((cxE P w K mg base N qual scp fa cd A outer s₀ H₀ E).env::outer):=I'.ok.frames
   have f3':s'.heap.FunFrames (PySem.W.hideAll s'.heap (C::x::T'::frs (cxE P w K mg base N qual scp fa cd A outer s₀ H₀ E).stack)) ((cxE P w K mg base N qual scp fa cd A outer s₀ H₀ E).env::outer):=zWh f3 λenv he a ha=>zUY _ (zUY _ (zUY _ (zU6.mpr ⟨env,he,ha⟩)))
   obtain ⟨oe,vs,T2,oT,ts,g1,g2,g3,g4,g5,g6,g7,g8,g9⟩:=f4
   have eT:(PySem.W.hideAll s'.heap (C::x::T'::frs (cxE P w K mg base N qual scp fa cd A outer s₀ H₀ E).stack)).get? T2=none:=by
    cases q:(PySem.W.hideAll s'.heap (C::x::T'::frs (cxE P w K mg base N qual scp fa cd A outer s₀ H₀ E).stack)).get? T2 with
    |none=>rfl
    |some o=>
     exfalso
     have m2:T2∉x::T'::frs (cxE P w K mg base N qual scp fa cd A outer s₀ H₀ E).stack:=λz=>by
      rw [zVx _ (zUY _ z)] at q;cases q
     rw [zV1 _ g7 m2] at g5;cases g5
   have L1:zOZ (PySem.W.hideAll s'.heap (C::x::T'::frs (cxE P w K mg base N qual scp fa cd A outer s₀ H₀ E).stack)) ((cxE P w K mg base N qual scp fa cd A outer s₀ H₀ E).env::outer) x (.ref C0) a0 .none s'.heap:=
    ⟨λb o e=>zWe _ e,zVx _ (by simp),f3',oe,vs,T2,oT,ts,g1,g2,g3,g4,eT,g6,g7,g8,g9⟩
   show wpAny (model P w) (cxE P w K mg base N qual scp fa cd A outer s₀ H₀ E).A (noteFrame (.ref x) _) _ _ s'
   rw [show noteFrame (.ref x) (compEnvC scope (zEc scope.names (cxE P w K mg base N qual scp fa cd A outer s₀ H₀ E).env.cells) C (cxE P w K mg base N qual scp fa cd A outer s₀ H₀ E).env)=noteFrame (.ref x) (cxE P w K mg base N qual scp fa cd A outer s₀ H₀ E).env from zFY rfl]
   refine wpAny_looks_onW frm (L:=s₀.heap.objs.size) rfl ⟨L1.st,L1.no,L1.ff,L1.tr⟩ λh1 held up1=>?_
   refine ⟨m',up1.ns hn,λh2 sb cenv hcl=>?_⟩
   have keepC:∀ b o,b≠C->h1.get? b=some o->h2.get? b=some o:=λb o nb e=>sb.extBut b o nb e
   obtain ⟨w1,w2,w3,oe1,vs1,T1,oT1,ts1,y1,y2,y3,y4,y5,y6,y7,y8,y9⟩:=held
   have bC:(PySem.W.hideAll s'.heap (C::x::T'::frs (cxE P w K mg base N qual scp fa cd A outer s₀ H₀ E).stack)).get? C=none:=zVx _ (by simp)
   have T1C:T1≠C:=λz=>by
    subst z
    obtain ⟨oc,_,_,q1,q2,_⟩:=up1.ns hn
    rw [y7] at q1;cases q1
    rw [y8] at q2;cases q2
   have frC:C∉frs (cxE P w K mg base N qual scp fa cd A outer s₀ H₀ E).stack:=λz=>by
    rcases zU6.mp z with ⟨env,he,hf⟩
    rcases zUg.mp he with rfl|he
    ·exact hC2 (zVY hf).symm
    ·obtain ⟨_,o,q,_⟩:=I'.ok.funs.mem (zU6.mpr ⟨env,he,hf⟩)
     exact absurd (zUm (zUo q) hC3) (zVp _)
   have L2':zOZ (PySem.W.hideAll s'.heap (C::x::T'::frs (cxE P w K mg base N qual scp fa cd A outer s₀ H₀ E).stack)) ((cxE P w K mg base N qual scp fa cd A outer s₀ H₀ E).env::outer) x (.ref C0) a0 (rawInt s₀.heap.objs.size) h2:=
    ⟨λb o e=>keepC b o (λz=>by subst z;rw [bC] at e;cases e) (w1 b o e),L1.no,zEu (λb o m e=>keepC b o (λz=>frC (z ▸ m)) e) w3,oe1,vs1,T1,oT1,ts1,keepC x _ xC y1,y2,y3,y4,y5,y6,keepC T1 _ T1C y7,y8,y9⟩
   refine zOa (s:={ s' with heap:=h2 }) L2' λh3 fl3 L3 keep3=>?_
   show wpAny (model P w) (cxE P w K mg base N qual scp fa cd A outer s₀ H₀ E).A (leaving (cxE P w K mg base N qual scp fa cd A outer s₀ H₀ E).env (.ref x)) _ _ _
   refine zMa (s:={ s' with heap:=h3 }) frm (L:=s₀.heap.objs.size) rfl L3 λh4 fly4 up4=>?_
   refine zMC (s:=s') I' (λb m=>?_) fly4 (λb m o e n=>?_) nx hx hE
   ·rcases zUg.mp m with rfl|m
    ·exact .inr ⟨by
      cases q:s₀.heap.get? b with
      |none=>rfl
      |some o=>exact absurd (zUm (zUo q) hC3) (zVp _),hC1⟩
    rcases zUg.mp m with rfl|m
    ·exact .inr ⟨nx,hx⟩
    rcases zUg.mp m with rfl|m
    ·exact .inr ⟨nT,hT⟩
    ·exact .inl m
   ·obtain ⟨sl1,e1'⟩:=up1 b o e n
    have bC':b≠C:=λz=>frC (by subst z;exact zU6.mpr (by obtain ⟨env,he,hf⟩:=zU6.mp m;exact ⟨env,zUY _ he,hf⟩))
    have e2':=keepC b _ bC' e1'
    have e3':=keep3 b _ e2' n
    obtain ⟨sl4,e4'⟩:=up4 b _ e3' n
    exact ⟨sl4,e4'⟩
 ·cases e2
theorem zOc (i:Nat) (c:Cls K C) (n:qO K C fld) (ho:PE (cxE P w K mg base N qual scp fa cd A outer s₀ H₀ E) o (zBi i)) {m:Nat} (hm:nm.length=m) (hk:scope.kind = .function) (hok:zAV N nm scope.names scp.names=true) (hi:SI (cxE P w K mg base N qual scp fa cd A outer s₀ H₀ E) tg iter fl) (hkg:zBu N.length gd)
  (hg:∀ C s₃ H₃ ex,SG (zk (cxE P w K mg base N qual scp fa cd A outer s₀ H₀ E) nm scope C s₃ H₃ ex) tg gd) (he:∀ (C:Addr) (s₃:Shared) (H₃:Hp) (ex:List Addr) (EE:VSt),zBb (CXE P w) ((zk (cxE P w K mg base N qual scp fa cd A outer s₀ H₀ E) nm scope C s₃ H₃ ex).wish EE) E->PE ((zk (cxE P w K mg base N qual scp fa cd A outer s₀ H₀ E) nm scope C s₃ H₃ ex).wish EE) elt (tCx K κ E g))
  (hs:∀ x,foldedSetIterable iter (cxE P w K mg base N qual scp fa cd A outer s₀ H₀ E).env x=pure x:=by intro _;rfl) (hsw:swapsWith (.ListComp elt [⟨tg,iter,[],0⟩] scope pos) (some (.Attribute o fld pos')) spos.line (cxE P w K mg base N qual scp fa cd A outer s₀ H₀ E).env=pure false:=by rfl) :
  SX (cxE P w K mg base N qual scp fa cd A outer s₀ H₀ E) κ E (.Assign [.Attribute o fld pos'] (.ListComp elt [⟨tg,iter,[],0⟩] scope pos) spos) (zHt C i fld (zF1 m fl gd g)):=
 ym (zLS ho (zOb hm hk hok hi hkg hg he hs) hsw) λE' σ H=>by
  rintro ⟨G0,H0,G,ρ,out,st,ef,kk⟩
  obtain ⟨r,e1,ef⟩:=zUX.mp ef
  refine ⟨G,ρ,r,st.bs.gh,st.er,e1,?_⟩
  cases r with
  |error c0=>
   cases ef
   exact λG' H' t=>kk G' H' (st.bs.step t)
  |ok ys=>
   obtain ⟨o',ef',rfl⟩:=zUZ.mp ef
   obtain ⟨c',fs,hu,hl,hlen,rfl⟩:=zGg ef'
   intro b vs G' H' t h1 h2 h3 rp
   have t':=zLm t h1 h2 h3
   have rep:Rep K (upd G' b (.lst vs)) (.lst ys) (.ref b):=zAS.mpr ⟨b,vs,rfl,SqL.of zM,Reps.mono (yj h2) _ _ rp⟩
   have st':=st.step t'
   obtain ⟨a,q1,q2,q3⟩:=st'.er.slot i _ hu rfl
   obtain ⟨dx,ws,z1,z2,z3,z4,z5⟩:=q2.1.1
   exact ⟨_,q1,a,C,dx,ws,rfl,z1,c,n,by omega,kk σ _ _ (st'.addL (fl:=.v (.lst ys)) (u:=.ref b) hu q1 z1 hl rep (by simp [fpL]) λp m=>by cases m)⟩
end
structure Left (G H G' H':Hp) (l:List Addr):Prop where
 g:zi G G'
 gh:zi G' H'
 fr:∀ b o,G' b=some o->G b=none->H b=none\/b∈l
 h:∀ b o,H b=some o->b∉l->H' b=some o
noncomputable def zRa (K:Fg) (κ:Nat->Addr) (f:Ob->List D->Option (Except Nat Ob)) (n:Nat):Sp:=λvs H Q E=>∃ G x a ds ws r,vs = .ref a::ws/\zi G H/\At K G H x a/\Reps K G ds ws/\ds.length+1=n/\f x ds=some r/\match r with
 |.ok x'=>∀ G' H',Chg K G H G' H' x x' a->Q .non H'
 |.error c=>∀ G' H',Left G H G' H' (fpO H x a)->E (.ref (κ c)) none H'
theorem zRb {P:Program} {w:World} {K:Fg} {mg:MGt} {base:Heap} {κ:Nat->Addr} {x qual:Str} {st:Stmt} {fa:Addr} {fd:FuncData} {N ps:List Str} {k:Nat} {F:Rho->Option zAy} {f:Ob->List D->Option (Except Nat Ob)}
  (FF:Fun K x qual st fa fd) (S:zT N ps (zH st))
  (hbody:∀ (cdv:Value) (A:Around) (outer:List Env) (s:Shared) (H:Hp) (E:XK),zAO k (A.deeper (envOfC qual (zH st) s.heap.objs.size fa cdv))->SXs (cxE P w K mg base N qual (zH st) fa cdv A outer s H E) κ E (yE st) F)
  (hf:∀ a y ds r,ds.length+1=ps.length->f y ds=some r->zTl N F a y ds=some r):zCb P w K mg base (CXE P w) (k+1) fa fd ps (zRa K κ f ps.length):=by
 obtain ⟨oc,od,kV,doc,pm,an,cdv,ct,osl,rfl,lk,hcd⟩:=FF.ex
 refine zNq lk hcd S (λvs H Q E h=>?_) λA outer s H vs Q E hr h=>?_
 ·obtain ⟨G,y,a,ds,ws,y',rfl,_,_,r,hn,_⟩:=h
  rw [zUa,<- r.length,hn]
 ·obtain ⟨G,y,a,ds,ws,res,rfl,sm,hA,r,hn,ef,kk⟩:=h
  refine ⟨_,hbody cdv A outer s H E hr,?_⟩
  obtain ⟨o,e1,e2⟩:=zUX.mp (hf a y ds res hn ef)
  have er0:Er K G H (.o (some a) y::ds.map Sl.v) ((V.ref a::ws).map some):=zGa rfl ⟨⟨hA.rep,hA.nd⟩,λc' e=>by cases e;rfl⟩ hA.fr r
  have er:=er0.app (N.length-(ds.length+1)) (List.replicate (N.length-(ds.length+1)) none) (by simp)
  have es:L2.zBj N (.ref a::ws)=(V.ref a::ws).map some++List.replicate (N.length-(ds.length+1)) none:=by rw [zC2,zUa,<- r.length]
  have hσ:((V.ref a::ws).map some++List.replicate (N.length-(ds.length+1)) none)[0]?=some (some (.ref a)):=by simp
  have no:=λb=>zEr (H:=H) (x:=y) (ds:=ds) (m:=N.length-(ds.length+1)) (b:=b) hσ
  rw [es]
  refine ⟨G,qt H _ _,G,_,o,er.toSt sm,e1,?_⟩
  cases o with
  |ex c=>
   cases e2
   intro G' H' b
   refine kk G' H' ⟨b.gg,b.gh,λd o e n=>?_,λd o e n=>b.hh d o (by rw [(no d).2 n];exact e)⟩
   have z:=b.fr d o e n
   by_cases hb:d∈fpO H y a
   ·exact .inr hb
   ·rw [(no d).2 hb] at z;exact .inl z
  |o out=>
   cases out with
   |nx ρ=>
    obtain ⟨y',e3,rfl⟩:=zUZ.mp e2
    clear e2
    unfold zD3 at e3
    split at e3
    ·rename_i c y1 q0
     split at e3
     ·rename_i hc
      cases e3
      subst hc
      intro σ' G' H' st'
      obtain ⟨a',g1,g2,g3⟩:=st'.er.slot 0 _ q0 rfl
      have:a'=a:=g2.2 a rfl
      subst this
      refine kk G' H' ⟨st'.bs.gg,st'.bs.gh,λb o e n=>?_,λb o e n=>st'.bs.hh b o (by rw [(no b).2 n];exact e),⟨g2.1.1,g2.1.2,g3⟩,λc m=>?_⟩
      ·have z:=st'.bs.fr b o e n
       by_cases hb:b∈fpO H y a'
       ·exact .inr hb
       ·rw [(no b).2 hb] at z;exact .inl z
      ·have z:=st'.ows 0 _ a' q0 rfl g1 c m
       by_cases hb:c∈fpO H y a'
       ·exact .inl hb
       ·rw [(no c).2 hb] at z;exact .inr z
     ·cases e3
    ·cases e3
   |rt d=>cases e2
   |bk ρ=>cases e2
   |ct ρ=>cases e2
   |ro ρ=>cases e2
   |rm d ρ=>cases e2
section
variable {X:Cx} {tg iter elt:Expr} {ifs:List Expr} {scope:Scope} {pos:Pos} {nm:List Str} {fl:ROl} {gd:D->Rho->Option Rho} {p:ROb} {f:ROd}
theorem qg {m:Nat} (hm:nm.length=m) (hc:X.calm=true) (hk:scope.kind = .function) (hok:zAV X.N nm scope.names X.env.scope.names=true) (hi:SI X tg iter fl) (hkg:zBu X.N.length gd)
  (hg:∀ C s₃ H₃ ex,SG (zk X nm scope C s₃ H₃ ex) tg gd) (ht:∀ C s₃ H₃ ex,STs (zk X nm scope C s₃ H₃ ex) ifs p) (he:∀ C s₃ H₃ ex,SE (zk X nm scope C s₃ H₃ ex) elt f)
  (hs:∀ x,foldedSetIterable iter X.env x=pure x:=by intro _;rfl):SF X (.ListComp elt [⟨tg,iter,ifs,0⟩] scope pos) (zJ m fl gd p f):=by
 intro pins s σ H Q I h
 obtain ⟨G,ρ,ys,sm,er,ef,k⟩:=h
 obtain ⟨ds,e1,e2⟩:=zUX.mp ef
 split at e2
 ·rename_i hl
  subst hm
  have hclos:closureFor scope X.env=pure (zEc scope.names X.env.cells):=zBP λy hy hf=>I.ok.has y.1 ((yp hok hy).2.2.2 hf)
  rw [eval_ListComp]
  refine zWY (use:=none) rfl hs hclos hk (λy hy=>(yp hok hy).2.2.1) (thn (hi pins s σ H _ I ⟨G,ρ,ds,sm,er,e1,λJ G' H' t it=>(⟨G',t,it⟩:∃ G',zd G H G' H'/\zNe X.K G' J ds)⟩) λv s1 h1=>thn h1 λitv s2 h2=>?_)
  obtain ⟨it,fp,tn,J,H2,rfl,I2,T,st2,f2,G2,t2,it2⟩:=h2
  refine zHu (RR:=λacc C=>compPost (model X.prog X.w) X.A X.xe none (EP X pins σ Q) acc C) hc hk hok hkg hg ht he I2 T st2 f2 t2.s (er.step t2) it2 hl e2 λD C s' H' G' vs m' I' t' nD gD hD rD hn hC1 hC2 hC3 hC4 hC5=>?_
  refine ⟨m',hn,λh' hs'=>⟨.ref D,H',?_,rfl,k D vs G' H' (t2.trans t') (t2.h.free nD) gD hD rD⟩⟩
  exact I'.turned (t':=s'.toks) (λb o hb e=>hs'.extBut b o hb e) hC1 hC2 (.inr hC3) hC4 hC5
 ·cases e2
theorem zJo {m:Nat} {x:Str} {py spos:Pos} {i:Nat} {fo:Rho->List D->Out} (hm:nm.length=m) (hc:X.calm=true) (hk:scope.kind = .function) (hok:zAV X.N nm scope.names X.env.scope.names=true) (hi:SI X tg iter fl) (hkg:zBu X.N.length gd)
  (hg:∀ C s₃ H₃ ex,SG (zk X nm scope C s₃ H₃ ex) tg gd) (ht:∀ C s₃ H₃ ex,STs (zk X nm scope C s₃ H₃ ex) ifs p) (he:∀ C s₃ H₃ ex,SE (zk X nm scope C s₃ H₃ ex) elt f)
  (hN:X.N.Nodup) (hx:X.N[i]?=some x) (hloc:Loc X.env.scope x)
  (hsw:swapsWith (.ListComp elt [⟨tg,iter,ifs,0⟩] scope pos) (some (.Name x py)) spos.line X.env=pure true)
  (hf:X.fn x=true\/X.env.scope.names.lookup x=some .local) (hs:∀ x,foldedSetIterable iter X.env x=pure x)
  (hfo:∀ {G0 H0 G H G' H':Hp} {ρ:Rho} {σ:L2.St} {a:Addr} {vs:List V} {ys:List D} {E:zLI},StR X.K G0 H0 G H ρ σ->zd G H G' H'->H a=none->G' a=none->H' a=some (.lst vs)->Reps X.K G' ys vs->zSP X.K G0 H0 E (fo ρ ys)->E.nx (σ.set i (some (.ref a))) H') :
  SS X (.Assign [.Name x py] (.ListComp elt [⟨tg,iter,ifs,0⟩] scope pos) spos) (λρ=>(zJ m fl gd p f ρ).map (fo ρ)):=by
 intro pins s σ H E I h
 obtain ⟨G0,H0,G,ρ,o,st,ef,k⟩:=h
 obtain ⟨ys,ef1,rfl⟩:=zUZ.mp ef
 obtain ⟨ds,e1,e2⟩:=zUX.mp ef1
 split at e2
 ·rename_i hl
  subst hm
  have hclos:closureFor scope X.env=pure (zEc scope.names X.env.cells):=zBP λy hy hf=>I.ok.has y.1 ((yp hok hy).2.2.2 hf)
  rw [exec_Assign_Name_used _ _ _ _ hsw]
  refine zUe (wpAny_standAt (zUe ?_))
  show wpAny _ X.A (do let _ <- comprehension (.ListComp elt [⟨tg,iter,ifs,0⟩] scope pos) scope X.env _ (newList []) false (eval iter X.env) (some (assign (.Name x py) X.env))) _ _ s
  refine zUe (zVM (zWY (use:=some (assign (.Name x py) X.env)) (Q:=λ_ s'=>SP X pins E .next s') rfl hs hclos hk (λy hy=>(yp hok hy).2.2.1)
   (thn (hi pins s σ H _ I ⟨G,ρ,ds,st.bs.gh,st.er,e1,λJ G' H' t it=>(⟨G',t,it⟩:∃ G',zd G H G' H'/\zNe X.K G' J ds)⟩) λv s1 h1=>thn h1 λitv s2 h2=>?_)) (λ_ s' hq=>zUl (zUl hq)) λ_ _ e=>e)
  obtain ⟨it,fp,tn,J,H2,rfl,I2,T,st2,f2,G2,t2,it2⟩:=h2
  refine zHu (RR:=λacc C=>compPost (model X.prog X.w) X.A X.xe (some (assign (.Name x py) X.env)) (λ_ s'=>SP X pins E .next s') acc C) hc hk hok hkg hg ht he I2 T st2 f2 t2.s (st.er.step t2) it2 hl e2 λD C s' H' G' vs m' I' t' nD gD hD rD hn hC1 hC2 hC3 hC4 hC5=>?_
  show wpAny _ _ (assign (.Name x py) X.env (.ref D)) _ _ _
  refine wpAny_assign_Name (zHE (v:=.ref D) I' hN hx hloc rfl (λs'' I'' hsb=>?_) hf)
  obtain ⟨a,hsb,ha⟩:=hsb
  have hCa:C≠a:=by
   rcases ha with z|z
   ·rw [z];exact hC2
   ·exact (hC4 x a z).symm
  refine ⟨m',hn.sameBut hsb hCa,λh' hs'=>⟨_,H',I''.turned (t':=s''.toks) (λb o hb e=>hs'.extBut b o hb e) hC1 hC2 (.inr hC3) hC4 hC5,?_⟩⟩
  exact hfo st (t2.trans t') (t2.h.free nD) gD hD rD k
 ·cases e2
variable {m:Nat} {x:Str} {py spos:Pos}
theorem zDc (i:Nat) (hm:nm.length=m) (hc:X.calm=true) (hk:scope.kind = .function) (hok:zAV X.N nm scope.names X.env.scope.names=true) (hi:SI X tg iter fl) (hkg:zBu X.N.length gd)
  (hg:∀ C s₃ H₃ ex,SG (zk X nm scope C s₃ H₃ ex) tg gd) (ht:∀ C s₃ H₃ ex,STs (zk X nm scope C s₃ H₃ ex) ifs p) (he:∀ C s₃ H₃ ex,SE (zk X nm scope C s₃ H₃ ex) elt f)
  (hN:X.N.Nodup) (hx:X.N[i]?=some x) (hloc:Loc X.env.scope x)
  (hsw:swapsWith (.ListComp elt [⟨tg,iter,ifs,0⟩] scope pos) (some (.Name x py)) spos.line X.env=pure true:=by rfl)
  (hf:X.fn x=true\/X.env.scope.names.lookup x=some .local:=by first|exact .inl rfl|exact .inr rfl|assumption) (hs:∀ x,foldedSetIterable iter X.env x=pure x:=by intro _;rfl) :
  SS X (.Assign [.Name x py] (.ListComp elt [⟨tg,iter,ifs,0⟩] scope pos) spos) (qD i λρ=>(zJ m fl gd p f ρ).map .lst):=by
 have:=zJo (fo:=λρ ys=>.nx (ρ.set i (.v (.lst ys)))) hm hc hk hok hi hkg hg ht he hN hx hloc hsw hf hs (λ{G0 H0 G H G' H' ρ σ a vs ys E} st t h1 h2 h3 r k=>k _ _ _ ((st.step (zLm t h1 h2 h3)).setV (zAS.mpr ⟨a,vs,rfl,SqL.of zM,Reps.mono (yj h2) _ _ r⟩)))
 refine ym this λQ σ H ⟨G0,H0,G,ρ,o,st,ef,k⟩=>⟨G0,H0,G,ρ,o,st,?_,k⟩
 unfold qD at ef
 rw [Option.map_map] at ef
 exact ef
theorem zIo (i:Nat) (hm:nm.length=m) (hc:X.calm=true) (hk:scope.kind = .function) (hok:zAV X.N nm scope.names X.env.scope.names=true) (hi:SI X tg iter fl) (hkg:zBu X.N.length gd)
  (hg:∀ C s₃ H₃ ex,SG (zk X nm scope C s₃ H₃ ex) tg gd) (ht:∀ C s₃ H₃ ex,STs (zk X nm scope C s₃ H₃ ex) ifs p) (he:∀ C s₃ H₃ ex,SE (zk X nm scope C s₃ H₃ ex) elt f)
  (hN:X.N.Nodup) (hx:X.N[i]?=some x) (hloc:Loc X.env.scope x)
  (hsw:swapsWith (.ListComp elt [⟨tg,iter,ifs,0⟩] scope pos) (some (.Name x py)) spos.line X.env=pure true:=by rfl)
  (hf:X.fn x=true\/X.env.scope.names.lookup x=some .local:=by first|exact .inl rfl|exact .inr rfl|assumption) (hs:∀ x,foldedSetIterable iter X.env x=pure x:=by intro _;rfl) :
  SS X (.Assign [.Name x py] (.ListComp elt [⟨tg,iter,ifs,0⟩] scope pos) spos) (zAT i (zJ m fl gd p f)):=
 zJo (fo:=λρ ys=>.nx (ρ.set i (.l ys))) hm hc hk hok hi hkg hg ht he hN hx hloc hsw hf hs (λ{G0 H0 G H G' H' ρ σ a vs ys E} st t h1 h2 h3 r k=>k _ _ _ (st.setOwn t rfl h1 h2 (λxs z=>by cases z;exact ⟨vs,h3,r⟩) λ_ z=>by cases z))
end
section
variable {X:Cx} {κ:Nat->Addr} {C fi:Addr} {fd:FuncData} {ps:List Str} {e:Expr} {es:List Expr} {fl:ROl} {pos p cpos epos np hpos:Pos} {x xc y:Str} {k n:Nat} {F:Ob->List D->Option (Except Nat Ob)} {b₀:Stmt} {suite:List Stmt} {Fh:ROo}
theorem zMb (M:Mk X.K C fi) (FO:zCb X.prog X.w X.K X.mg X.base (CXE X.prog X.w) k fi fd ps (zRa X.K κ F n)) (hb:zAu X.K fd ps []) (hr:zAO (k+1) X.A) (hg:Gl X x) (hm:X.mg x=some (.ref C)) (hn:(e::es).length+1=n) (ha:SA X.nox (e::es) fl) (hex:X.ex = [])
  {pins:PNt} {σ:L2.St} {H:Hp} {s:Shared} (I:Inv X pins σ H s) {Q Xe:VSt} {G:Hp} {ρ:Rho} {ds:List D} {r:Except Nat Ob} (sm:zi G H) (er:Er X.K G H ρ σ) (e1:fl ρ=some ds) (e2:F (.ins C []) ds=some r)
  (hok:∀ x',r = .ok x'->∀ a G' H' s',zd G H G' H'->At X.K G' H' x' a->(∀ c∈fpO H' x' a,H c=none)->Inv X pins σ H' s'->Q (.ref a) s')
  (hbad:∀ c,r = .error c->∀ G' H' s' y T,zd G H G' H'->Inv X pins σ H' s'->Fly X.stack y T (.ref (κ c)) s'.heap->zIh X pins H' y->zIh X pins H' T->Xe (.ref y) s')
  (hdb:(x == ("__debug__" : Str))=false:=by decide) (he:starEach (e::es) X.env=(false,eval e X.env)::starEach es X.env:=by rfl) (hpl:(backTo pos (starEach es X.env)).any (·.1)=false:=by rfl) :
  wpAny (model X.prog X.w) X.A (eval (.Call (.Name x p) (e::es) [] pos) X.env) Q Xe s:=by
 refine zWI (zGJ I hg hm ?_ hdb)
 have hA:=ha.pa pos pins s σ H (λvs H1=>∃ G1,zd G H G1 H1/\Reps X.K G1 ds vs) (I.wish _) ⟨G,ρ,ds,sm,er,e1,λvs G1 H1 t1 r1=>⟨G1,t1,r1⟩⟩
 refine zW8 (h₀:=X.base) I.ok.mod.kin M.kp (zVM hA (λus s1 ⟨vs,H1,I1,rv,G1,t1,r1⟩=>⟨I1.unwish.kIn,?_⟩) λ_ _ z=>False.elim z) he hpl
 have I1:=I1.unwish
 have ha0:H1 (s1.heap.objs.size+1)=none:=I1.hok.fresh (zWk _)
 have hd0:H1 s1.heap.objs.size=none:=I1.hok.fresh (zUn _)
 have hne:s1.heap.objs.size≠s1.heap.objs.size+1:=zU0 (zW0 _)
 have I2:=Inv.made (C:=C) I1
 generalize hav:s1.heap.objs.size+1=a at ha0 hne I2
 generalize hdv:s1.heap.objs.size=dx at hd0 hne I2
 have g1:G1 a=none:=t1.s.free ha0
 have g2:G1 dx=none:=t1.s.free hd0
 have hH:∀ b u,H1 b=some u->upd (upd H1 dx (.own a)) a (.ins C dx []) b=some u:=λb u e=>by
  rw [zK (yq e ha0),zK (yq e hd0)];exact e
 have ea:upd (upd H1 dx (.own a)) a (.ins C dx []) a=some (.ins C dx []):=zM
 have ed:upd (upd H1 dx (.own a)) a (.ins C dx []) dx=some (.own a):=by rw [zK hne,zM]
 have fe:fpO (upd (upd H1 dx (.own a)) a (.ins C dx [])) (.ins C []) a = [a,dx]:=by simp only [fpO];rw [ea];rfl
 have AA:At X.K G1 (upd (upd H1 dx (.own a)) a (.ins C dx [])) (.ins C []) a:=⟨⟨dx,[],ea,ed,(λq m=>by cases m),(λ_ _=>rfl),zUn _⟩,by rw [fe];simp [Ne.symm hne],λp m=>by
  rw [fe] at m
  rcases zUg.mp m with z|m
  ·subst z;exact g1
  ·cases zUf.mp m;exact g2⟩
 have low:∀ b,b∈fpO (upd (upd H1 dx (.own a)) a (.ins C dx [])) (.ins C []) a->H1 b=none:=λb m=>by
  rw [fe] at m
  rcases zUg.mp m with z|m
  ·subst z;exact ha0
  ·cases zUf.mp m;exact hd0
 have low2:∀ b,upd (upd H1 dx (.own a)) a (.ins C dx []) b=none->H1 b=none:=λb h=>by
  cases q:H1 b with
  |none=>rfl
  |some u=>rw [hH b u q] at h;cases h
 have up:∀ b,H1 b=none->H b=none:=λb h=>by
  cases q:H b with
  |none=>rfl
  |some u=>rw [t1.h b u q] at h;cases h
 have hq:zRa X.K κ F n (V.ref a::vs) (upd (upd H1 dx (.own a)) a (.ins C dx [])) (λv H2=>v = .non/\∃ x' G',r = .ok x'/\Chg X.K G1 (upd (upd H1 dx (.own a)) a (.ins C dx [])) G' H2 (.ins C []) x' a)
   (λu _ H2=>∃ c G',r = .error c/\u = .ref (κ c)/\Left G1 (upd (upd H1 dx (.own a)) a (.ins C dx [])) G' H2 (fpO (upd (upd H1 dx (.own a)) a (.ins C dx [])) (.ins C []) a)):=by
  refine ⟨G1,.ins C [],a,ds,vs,r,rfl,λb u e=>hH b u (t1.s b u e),AA,r1,by rw [ha.len _ _ e1];exact hn,e2,?_⟩
  cases r with
  |ok x'=>exact λG' H' ch=>⟨rfl,x',G',rfl,ch⟩
  |error c=>exact λG' H' lf=>⟨c,G',rfl,rfl,lf⟩
 have r2:yP (V.ref a::vs) (Value.ref a::us):=.cons rfl rv
 have hl:(Value.ref a::us ++ []).length=ps.length:=by
  have e:=r2.length
  rw [FO.len _ _ _ _ hq] at e
  rw [zVP];exact e.symm
 subst hav
 subst hdv
 have bt:=hb _ (Value.ref (s1.heap.objs.size+1)::us) I2.kIn (by simpa using hl)
 rw [zVP] at bt
 refine wpAny_call (zNo (f:=fi) I1.kIn M.makes M.init (zWP.mp M.fn) (codeAny_mono (FO.run _ X.stack _ _ ⟨Value.ref (s1.heap.objs.size+1)::us,[]⟩ (Value.ref (s1.heap.objs.size+1)::us) _ _ _ (hr.make C us [])
  (I2.env0.make C us []) bt r2 hq) λrr s' hq'=>?_))
 cases rr with
 |error u=>
  obtain ⟨y,T,C0,H',rfl,os,bare,un,hok',fly,ny,nT,hy,hT,c,G',rfl,eC,lf⟩:=hq'
  cases eC
  have J:Inv X pins σ H' s':=I2.call' os un hok' bare λb m=>absurd m (by simp)
  have t2:zd G1 H1 G' H':=⟨lf.g,λb u e=>lf.h b u (hH b u e) (λm=>by rw [low b m] at e;cases e),lf.gh,λb u e n=>(lf.fr b u e n).elim (low2 b) (low b)⟩
  exact hbad c rfl G' H' s' y T (t1.trans t2) J fly (zTf I2 hex ny hy) (zTf I2 hex nT hT)
 |ok fw=>
  cases fw with
  |ret u=>
   obtain ⟨v,H',I3,rv',ev,x',G',rfl,ch⟩:=I2.after hq'
   subst ev
   have t2:zd G1 H1 G' H':=⟨ch.g,λb u e=>ch.h b u (hH b u e) (λm=>by rw [low b m] at e;cases e),ch.gh,λb u e n=>(ch.fr b u e n).elim (low2 b) (low b)⟩
   exact ⟨rv',hok x' rfl _ G' H' s' (t1.trans t2) ch.at_ (λc m=>up c ((ch.new c m).elim (low c) (low2 c))) I3⟩
  |next=>exact False.elim hq'
  |brk=>exact False.elim hq'
  |cont=>exact False.elim hq'
theorem zOd (i:Nat) (cc:Nat) {pos':Pos} (M:Mk X.K C fi) (FO:zCb X.prog X.w X.K X.mg X.base (CXE X.prog X.w) k fi fd ps (zRa X.K κ F n)) (hb:zAu X.K fd ps []) (hr:zAO (k+1) X.A) (hg:Gl X x) (hm:X.mg x=some (.ref C)) (hn:(e::es).length+1=n) (ha:SA X.nox (e::es) fl) (hex:X.ex = [])
  (hC:zQ8 X.K (κ cc)) (hgc:Gl X xc) (hmc:X.mg xc=some (.ref (κ cc))) (hst:X.stack=X.env::X.outer) (hfr:X.env.frame=some X.env.locals)
  (hh:∀ y,SSs (hdX X y).nox (b₀::suite) Fh) (hN:X.N.Nodup) (hi:X.N[i]?=some y) (hy:Loc X.env.scope y) (hs:swapsWith (.Call (.Name x p) (e::es) [] cpos) (some (.Name y pos')) epos.line X.env=pure false:=by rfl)
  (hf:X.fn y=true\/X.env.scope.names.lookup y=some .local:=by first|exact .inl rfl|exact .inr rfl|assumption) (hdb:(x == ("__debug__" : Str))=false:=by decide) (hdc:(xc == ("__debug__" : Str))=false:=by decide)
  (he:starEach (e::es) X.env=(false,eval e X.env)::starEach es X.env:=by rfl) (hpl:(backTo cpos (starEach es X.env)).any (·.1)=false:=by rfl) :
  SS X (.Try [.Assign [.Name y pos'] (.Call (.Name x p) (e::es) [] cpos) epos] [.ExceptHandler (some (.Name xc np)) none (b₀::suite) hpos] [] [] pos) (zCP C i fl F cc Fh):=by
 intro pins s σ H D I h
 obtain ⟨G0,H0,G,ρ,o,st,ef,k⟩:=h
 obtain ⟨ds,e1,ef1⟩:=zUX.mp ef
 obtain ⟨r,e2,ef2⟩:=zUX.mp ef1
 refine wpAny_Try_except (wpAny_execs_cons (wpAny_Assign_Name (zMb M FO hb hr hg hm hn ha hex I st.bs.gh st.er e1 e2 (λx' hx a G' H' s' t At' nw J=>?_) (λc hc G' H' s' y T t J fly ny nT=>?_) hdb he hpl) hs))
 ·subst hx
  cases ef2
  exact zD9 J hN hi hy (v:=.ref a) rfl (λs2 I2=>zWM (zWM ⟨_,H',I2,k _ G' H' (st.setNew t (w:=.o none x') rfl ⟨⟨At'.rep,At'.nd⟩,λ_ z=>by cases z⟩ λc m=>⟨nw c m,At'.fr c m⟩)⟩)) hf
 ·subst hc
  simp only at ef2
  split at ef2
  ·rename_i hcc
   subst hcc
   exact zTg hC hgc hmc hst hfr J fly ny nT (hh y) ⟨G0,H0,G',ρ,o,st.step t,ef2,k⟩ hdc
  ·cases ef2
noncomputable def zJp (C:Addr) (i:Nat) (fl:ROl) (F:Ob->List D->Option (Except Nat Ob)):ROo:=λρ=>(fl ρ).bind λds=>(F (.ins C []) ds).bind λr=>match r with
 |.ok x=>some (.nx (ρ.set i (.o none x)))
 |.error _=>none
theorem zOe (i:Nat) {pos':Pos} (M:Mk X.K C fi) (FO:zCb X.prog X.w X.K X.mg X.base (CXE X.prog X.w) k fi fd ps (zRa X.K κ F n)) (hb:zAu X.K fd ps []) (hr:zAO (k+1) X.A) (hg:Gl X x) (hm:X.mg x=some (.ref C)) (hn:(e::es).length+1=n) (ha:SA X.nox (e::es) fl) (hex:X.ex = [])
  (hN:X.N.Nodup) (hi:X.N[i]?=some y) (hy:Loc X.env.scope y) (hs:swapsWith (.Call (.Name x p) (e::es) [] cpos) (some (.Name y pos')) epos.line X.env=pure false:=by rfl)
  (hf:X.fn y=true\/X.env.scope.names.lookup y=some .local:=by first|exact .inl rfl|exact .inr rfl|assumption) (hdb:(x == ("__debug__" : Str))=false:=by decide)
  (he:starEach (e::es) X.env=(false,eval e X.env)::starEach es X.env:=by rfl) (hpl:(backTo cpos (starEach es X.env)).any (·.1)=false:=by rfl) :
  SS X (.Assign [.Name y pos'] (.Call (.Name x p) (e::es) [] cpos) epos) (zJp C i fl F):=by
 intro pins s σ H D I h
 obtain ⟨G0,H0,G,ρ,o,st,ef,k⟩:=h
 obtain ⟨ds,e1,ef1⟩:=zUX.mp ef
 obtain ⟨r,e2,ef2⟩:=zUX.mp ef1
 refine wpAny_Assign_Name (zMb M FO hb hr hg hm hn ha hex I st.bs.gh st.er e1 e2 (λx' hx a G' H' s' t At' nw J=>?_) (λc hc G' H' s' y T t J fly ny nT=>?_) hdb he hpl) hs
 ·subst hx
  cases ef2
  exact zD9 J hN hi hy (v:=.ref a) rfl (λs2 I2=>⟨_,H',I2,k _ G' H' (st.setNew t (w:=.o none x') rfl ⟨⟨At'.rep,At'.nd⟩,λ_ z=>by cases z⟩ λc m=>⟨nw c m,At'.fr c m⟩)⟩) hf
 ·subst hc
  cases ef2
end
end RD
section
local macro_rules | `(tactic| exists $es,*) => let l := ("RD.gV RD.gR RD.zR RD.zN RD.zDW RD.zAA RD.sq RD.sIf RD.bB RD.b1 RD.b2 RD.b3 RD.b1F RD.b2F RD.b3S RD.zNd RD.zQm RD.gL RD.zN1 RD.vOr RD.vNot RD.bAnd RD.bOr RD.zQp RD.zK9 RD.truD RD.asB RD.asI RD.oI RD.zB RD.qD RD.zAT RD.zSQ RD.zPo RD.iL RD.iT RD.iR2 RD.iEn RD.zDZ RD.asL RD.asT RD.zIN RD.zL4 RD.frz RD.zKY RD.zNf RD.zGV RD.zKZ RD.zPm RD.zEF RD.zHb RD.zPn RD.zTP RD.ltO RD.gtO RD.dIn RD.zOC RD.zOD RD.zOE RD.allO RD.anyO RD.zTZ RD.slD RD.slF zUb Option.bind_none zUx Option.map_none zUv zVB List.getElem?_nil zVt zWb zUa zUq zUc zVq zVd zVh zVP List.replicate_succ List.replicate_zero Nat.reduceAdd Nat.reduceSub Nat.reduceLeDiff Nat.reduceLT zVU zVg ite_true ite_false true_and and_true zVN decide_true zV4 Bool.not_true Bool.not_false List.range_zero Int.toNat_zero zUi zUr zWs Nat.zero_add zWq reduceIte reduceCtorEq Int.reduceLT Int.reduceLE Int.reducePow Int.reduceNeg Int.reduceMul Int.reduceAdd Int.reduceSub Int.reduceToNat true_or or_true and_self or_self Bool.and_self Bool.true_and Bool.and_true Bool.true_or Bool.or_true Bool.false_and Bool.false_or Nat.reduceMul Nat.reducePow Int.reduceEq Nat.reduceEqDiff Int.natCast_zero Int.cast_ofNat_Int Int.ofNat_eq_natCast RD.dep RD.rng RD.inR RD.zQ RD.zJ RD.zf RD.iR1 RD.gM RD.zo RD.depL".splitOn " ").toArray.map (fun s => (⟨Lean.mkIdent s.toName⟩ : Lean.Term)) ++ es.getElems; `(tactic| simp (config := { decide := true }) only [$[$l:term],*])
local macro_rules | `(tactic| exists 0, $es,*) => let l := ("RD.eqD RD.gN RD.gT RD.eqO RD.zc RD.gCs RD.eqL RD.neO RD.gNl RD.isO RD.zV RD.zP RD.zj".splitOn " ").toArray.map (fun s => (⟨Lean.mkIdent s.toName⟩ : Lean.Term)) ++ es.getElems; `(tactic| exists $[$l:term],*)
namespace LG
open PySem L2 RD
abbrev zDd:List Str:=["_law_script","_law_k"]
def zCG:ROo:=(sq (sIf (bB (b2 (gR 1) (b1 (gR 0) zEF) ltO)) (zAA (b2 (gR 0) (gR 1) ixO)) (λρ=>some (Out.nx ρ))) (zAA (zR 0)))
def zh (ds:List D):Option D:=zDW zDd zCG ds
abbrev zEv:List Str:=["_law_cell_here","_law_prime","_law_many"]
def zEw:ROo:=(zAA (b2 (b2 (b2 (gR 0) (zR 48271) zNf) (gR 1) zGV) (gR 2) zGV))
def zS (ds:List D):Option D:=zDW zEv zEw ds
def zBy:ROo:=(sq (qD 5 (λρ=>((zB (gV 0) (zB (zR 9883) (zB (b2 (b1 (gR 4) zEF) (zR 1) zV) zN))) ρ).bind zS)) (zAA (b2 (b2 (b3S (gR 4) (λ_=>some none) (oI (gV 5)) slD) (gR 3) zV) (b3S (gR 4) (oI (gV 5)) (λ_=>some none) slD) zV)))
def qu:ROo:=(sq (qD 4 (b1 (λρ=>((zJ 1 (iR1 (zB (λρ=>((zB (gV 0) (zB (zR 9887) (zB (zR 3) zN))) ρ).bind zS) zN)) (gN 6) (λ_=>some true) (b2 (gR 2) (λρ=>((zB (b2 (gR 0) (b2 (zR 3) (gR 6) zNf) zV) (zB (zR 9941) (zB (zR 26) zN))) ρ).bind zS) ixO)) ρ).map D.lst) (zKc ""))) zBy)
abbrev zDe:List Str:=["_law_cell_here","_law_j","_law_letters","_law_sign","_law_tail","_law_at"]
def zDf:ROo:=(sq (qD 2 (λ_=>some (D.str "abcdefghijklmnopqrstuvwxyz"))) (sq (qD 3 (b2 (gR 2) (b2 (b2 (λρ=>((zB (gV 0) (zB (zR 9923) (zB (zR 26) zN))) ρ).bind zS) (b2 (zR 9) (gR 1) zNf) zV) (zR 26) zGV) ixO)) qu))
def yN (ds:List D):Option D:=zDW zDe zDf ds
abbrev zBT:List Str:=["_law_cell_here","_law_many"]
def zAH:ROo:=(zAA (zN1 (b2 (b2 (gR 0) (zR 4) zGV) (zR 2) eqO) (b2 (gR 1) (zR 2) gtO)))
def yS (ds:List D):Option D:=zDW zBT zAH ds
abbrev zDg:List Str:=["_law_cell_here","_law_many","_law_rows"]
def zDh:ROo:=(sq (qD 2 (b2 (b2 (gR 1) (zR 2) zKY) (b1 (λρ=>((zB (gV 0) (zB (gV 1) zN)) ρ).bind yS) zTP) zV)) (zAA (b2 (b2 (zR 1) (b2 (b2 (zR 1) (λρ=>((zB (gV 0) (zB (zR 9949) (zB (zR 3) zN))) ρ).bind zS) zV) (gR 2) zNf) zV) (b1 (b2 (λρ=>((zB (gV 0) (zB (zR 9931) (zB (zR 3) zN))) ρ).bind zS) (zR 0) gtO) zTP) zV)))
def zBB (ds:List D):Option D:=zDW zDg zDh ds
def zDi:ROo:=(sq (qD 12 (b2 (λρ=>((zB (b2 (b2 (gR 10) (gR 11) zV) (zR 1) zV) (zB (b2 (gR 1) (gR 8) ixO) zN)) ρ).map D.lst) (b1 (b2 (gR 11) (b2 (gR 7) (zR 1) zKY) eqO) zTP) ixO)) (zIN 5 (λρ=>((zB (λ_=>some (D.str "tell")) (zB (b2 (gR 3) (zR 0) ixO) (zB (b2 (gR 3) (gR 11) ixO) (zB (λρ=>((zB (λρ=>((zB (gV 9) (zB (gV 12) zN)) ρ).map D.tup) zN) ρ).map D.tup) zN)))) ρ).map D.tup)))
def zDj:ROo:=(sq (qD 10 (b2 (b2 (gR 0) (zR 1) zV) (b2 (gR 8) (gR 7) zNf) zV)) (sq (zIN 6 (λρ=>((zB (gV 9) (zB (gV 10) zN)) ρ).map D.tup)) (sq (zIN 5 (λρ=>((zB (λ_=>some (D.str "tell")) (zB (gV 2) (zB (b2 (gR 3) (zR 1) ixO) (zB (λρ=>((zB (λρ=>((zB (b2 (gR 4) (zR 0) ixO) (zB (b2 (gR 10) (zR 1) zV) zN)) ρ).map D.tup) zN) ρ).map D.tup) zN)))) ρ).map D.tup)) (zf (iR2 (zB (zR 1) (zB (gV 7) zN))) (gN 11) zDi))))
abbrev zAW:List Str:=["_law_start","_law_goals","_law_one","_law_others","_law_words","_law_rows","_law_choices","_law_size_here","_law_j","_law_word_here","_law_at","_law_k","_law_after"]
def zBz:ROo:=(sq (zAT 5 zN) (sq (zAT 6 zN) (sq (qD 7 (b1 (gR 3) zEF)) (sq (zf (iEn (gV 4)) (gT 2 (gCs (gN 8) (gCs (gN 9) gNl))) zDj) (zAA (λρ=>((b2F (λρ=>((zB (λρ=>((zB (λ_=>some (D.str "tell")) (zB (gV 2) (zB (b2 (gR 3) (zR 0) ixO) (zB (b1 (gR 6) zHb) zN)))) ρ).map D.tup) zN) ρ).map D.lst) (gR 5) zo) ρ).map D.lst))))))
def zl (ds:List D):Option D:=zDW zAW zBz ds
def zEx:ROo:=(zIN 7 (λρ=>((zB (λ_=>some (D.str "tell")) (zB (gV 4) (zB (b2 (gR 5) (b2 (gR 12) (zR 1) zV) ixO) (zB (λρ=>((zB (λρ=>((zB (gV 10) (zB (b2 (gR 11) (b2 (gR 12) (zR 1) zV) ixO) zN)) ρ).map D.tup) zN) ρ).map D.tup) zN)))) ρ).map D.tup))
def zEy:ROo:=(sq (qD 11 (λρ=>((b2F (λρ=>((zJ 1 (iR1 (zB (b2 (gR 2) (zR 2) zKY) zN)) (gN 13) (λ_=>some true) (b2 (b2 (b2 (gR 1) (zR 1) zV) (b2 (gR 9) (b2 (gR 2) (zR 2) zKY) zNf) zV) (gR 13) zV)) ρ).map D.lst) (λρ=>((zB (b2 (gR 3) (gR 9) ixO) zN) ρ).map D.lst) zo) ρ).map D.lst)) (sq (zIN 8 (λρ=>((zB (gV 10) (zB (b2 (gR 11) (zR 0) ixO) zN)) ρ).map D.tup)) (zf (iR1 (zB (b2 (gR 2) (zR 2) zKY) zN)) (gN 12) zEx)))
def zB0:ROo:=(sq (zAT 7 zN) (sq (zAT 8 zN) (sq (zf (iEn (gV 6)) (gT 2 (gCs (gN 9) (gCs (gN 10) gNl))) zEy) (zAA (λρ=>((b2F (λρ=>((zB (λρ=>((zB (λ_=>some (D.str "tell")) (zB (gV 4) (zB (b2 (gR 5) (zR 0) ixO) (zB (b1 (gR 8) zHb) zN)))) ρ).map D.tup) zN) ρ).map D.lst) (gR 7) zo) ρ).map D.lst)))))
def z8:ROo:=(sq (sIf (zK9 (λρ=>((zB (gV 0) (zB (gV 2) zN)) ρ).bind yS)) (zAA (λρ=>((zB (gV 1) (zB (gV 3) (zB (gV 4) (zB (gV 5) (zB (gV 6) zN))))) ρ).bind zl)) (λρ=>some (Out.nx ρ))) zB0)
def zm:ROo:=(sq (qD 6 (λρ=>((b1F (λρ=>((zJ 1 (iR1 (zB (b2 (zR 1) (λρ=>((zB (gV 0) (zB (zR 9949) (zB (zR 3) zN))) ρ).bind zS) zV) zN)) (gN 13) (λ_=>some true) (λρ=>((zB (gV 0) (zB (gV 13) zN)) ρ).bind yN)) ρ).map D.lst) zCw) ρ).map D.lst)) z8)
abbrev yx:List Str:=["_law_cell_here","_law_start","_law_many","_law_goals","_law_one","_law_others","_law_words","_law_rows","_law_choices","_law_j","_law_word_here","_law_afters","_law_k"]
def zC5:ROo:=(sq (qD 4 (λρ=>((zB (gV 0) (zB (zR 9929) (zB (gV 2) zN))) ρ).bind zS)) (sq (qD 5 λρ=>((zJ 1 (iR1 (zB (b2 (gR 2) (zR 1) zKY) zN)) (gN 13) (λ_=>some true) (b2 (b2 (b2 (gR 4) (zR 1) zV) (b2 (b2 (gR 13) (λρ=>((zB (gV 0) (zB (zR 9901) (zB (b2 (gR 2) (zR 1) zKY) zN))) ρ).bind zS) zV) (b2 (gR 2) (zR 1) zKY) zGV) zV) (gR 2) zGV)) ρ).map D.lst) zm))
def zZ (ds:List D):Option D:=zDW yx zC5 ds
abbrev zAX:List Str:=["_law_cell_here","_law_here","_law_many","_law_goal","_law_one","_law_other","_law_words"]
def yv:ROo:=(sq (qD 4 (λρ=>((zB (gV 0) (zB (zR 9871) (zB (gV 2) zN))) ρ).bind zS)) (sq (qD 5 (b2 (b2 (b2 (gR 4) (zR 1) zV) (λρ=>((zB (gV 0) (zB (zR 9859) (zB (b2 (gR 2) (zR 1) zKY) zN))) ρ).bind zS) zV) (gR 2) zGV)) (sq (qD 6 (λρ=>((b1F (λρ=>((zB (λρ=>((zB (b2 (gR 0) (zR 1) zV) (zB (zR 0) zN)) ρ).bind yN) (zB (λρ=>((zB (b2 (gR 0) (zR 1) zV) (zB (zR 1) zN)) ρ).bind yN) zN)) ρ).map D.lst) zCw) ρ).map D.lst)) (sq (sIf (bB (b2 (λρ=>((zB (gV 0) (zB (zR 9931) (zB (zR 3) zN))) ρ).bind zS) (zR 1) eqO)) (zAA (λρ=>((zB (λ_=>some (D.str "tell")) (zB (gV 4) (zB (gV 5) (zB (λρ=>((zB (λρ=>((zB (b2 (gR 6) (zR 0) ixO) (zB (gV 3) zN)) ρ).map D.tup) zN) ρ).map D.tup) zN)))) ρ).map D.tup)) (λρ=>some (Out.nx ρ))) (zAA (λρ=>((zB (λ_=>some (D.str "tell")) (zB (gV 4) (zB (gV 5) (zB (λρ=>((zB (λρ=>((zB (b2 (gR 6) (zR 0) ixO) (zB (b2 (λρ=>((zB (gV 1) (zB (gV 3) zN)) ρ).map D.lst) (b2 (gR 0) (zR 2) zGV) ixO) zN)) ρ).map D.tup) (zB (λρ=>((zB (b2 (gR 6) (zR 1) ixO) (zB (b2 (λρ=>((zB (gV 3) (zB (gV 1) zN)) ρ).map D.lst) (b2 (gR 0) (zR 2) zGV) ixO) zN)) ρ).map D.tup) zN)) ρ).map D.tup) zN)))) ρ).map D.tup))))))
def yK (ds:List D):Option D:=zDW zAX yv ds
def yy:ROo:=(zIN 3 (b2 (b2 (gR 3) (b1 (zR 1) zPm) ixO) (λρ=>((zB (gV 4) (zB (gV 1) zN)) ρ).bind zBB) zV))
def qX:ROo:=(sq (zAT 7 (zJ 1 (iR1 (zB (zR 3) zN)) (gN 9) (λ_=>some true) (b2 (gR 3) (λρ=>((zB (b2 (gR 4) (b2 (zR 7) (gR 9) zNf) zV) (zB (zR 9907) (zB (b1 (gR 3) zEF) zN))) ρ).bind zS) ixO))) (sq (qD 8 (b2 (gR 7) (zR 0) ixO)) (sq (sIf (bB (b2 (λρ=>((zB (gV 4) (zB (zR 9931) (zB (zR 3) zN))) ρ).bind zS) (zR 0) gtO)) (zL4 7 (zR 0) (b2 (b2 (gR 3) (b2 (gR 6) (zR 1) zV) ixO) (zR 1) zKY)) (λρ=>some (Out.nx ρ))) (λρ=>(sq (zAT 5 (b2F (gR 5) (λρ=>((zB (gV 4) (zB (b2 (gR 3) (gR 6) ixO) (zB (gV 1) (zB (gV 7) zN)))) ρ).bind zZ) zo)) (sIf (bB (b2 (λρ=>((zB (gV 4) (zB (zR 9931) (zB (zR 3) zN))) ρ).bind zS) (zR 0) gtO)) (zIN 5 (λρ=>((zB (gV 4) (zB (b2 (b2 (gR 3) (b2 (gR 6) (zR 1) zV) ixO) (zR 1) zKY) (zB (gV 1) (zB (gV 8) zN)))) ρ).bind yK)) (λρ=>some (Out.nx ρ)))) (frz 7 ρ)))))
abbrev zCi:List Str:=["_law_script","_law_many","_law_cells","_law_starts","_law_cell_here","_law_places","_law_k","_law_goals","_law_after"]
def zBU:ROo:=(sq (qD 1 (b2 (zR 2) (λρ=>((zB (λρ=>((zB (gV 0) (zB (zR 0) zN)) ρ).bind zh) (zB (zR 9973) (zB (zR 3) zN))) ρ).bind zS) zV)) (sq (qD 2 λρ=>((zJ 1 (iR1 (zB (b2 (zR 1) (λρ=>((zB (λρ=>((zB (gV 0) (zB (zR 0) zN)) ρ).bind zh) (zB (zR 9967) (zB (zR 3) zN))) ρ).bind zS) zV) zN)) (gN 9) (λ_=>some true) (λρ=>((zB (gV 0) (zB (b2 (zR 1) (gR 9) zV) zN)) ρ).bind zh)) ρ).map D.lst) (sq (zAT 3 (zB (zR 0) zN)) (sq (zf (iL (gV 2)) (gN 4) yy) (sq (zAT 5 zN) (sq (zf (iEn (gV 2)) (gT 2 (gCs (gN 6) (gCs (gN 4) gNl))) qX) (zAA (λρ=>((zB (gV 1) (zB (b1 (λρ=>((b2F (gR 5) (λρ=>((zB (λρ=>((zB (λ_=>some (D.str "end")) zN) ρ).map D.tup) zN) ρ).map D.lst) zo) ρ).map D.lst) zHb) zN)) ρ).map D.tup))))))))
def qh (ds:List D):Option D:=zDW zCi zBU ds
def mix (c p m:Int):Int:=c*48271%p%m
theorem yd (c p:Int) {m:Int} (h:0<m):0<=mix c p m:=zV9 _ (by omega)
theorem ye (c p:Int) {m:Int} (h:0<m):mix c p m<m:=zV2 _ h
theorem qv {c p m:Int} (hp:0<p) (hm:0<m):zS [.int c,.int p,.int m]=some (.int (mix c p m)):=by
 exists 0,zS,zEw,hp,hm,mix,atI,ixN,ixO
theorem zRc {ns:List Int} {k:Int} (h0:0<=k) (h:k<ns.length):atI (ns.map D.int) k=some (.int (ns.getD k.toNat 0)):=by
 have h2:k.toNat<ns.length:=by omega
 simp [atI,ixN,h0,h,h2]
theorem zMc {ns:List Int} {k:Int} (h0:0<=k):zh [.lst (ns.map D.int),.int k]=some (.int (ns.getD k.toNat 0)):=by
 by_cases h:k<ns.length
 ·exists 0,zh,zCG,h,zRc h0 h,ixO
 ·have h2:ns.getD k.toNat 0=0:=by
   have:ns[k.toNat]?=none:=by simp;omega
   simp [List.getD,this]
  exists 0,zh,zCG,h,h2,ixO
def zCj (c m:Int):Bool:=decide (c%4=2) && decide (2<m)
theorem zMd {c m:Int}:yS [.int c,.int m]=some (.bl (zCj c m)):=by
 by_cases e:c%4=2
 ·simp [yS,zAH,zDW,zAA,b2,zQm,zGV,zN1,eqO,dep,eqD,asB,gtO,e,zCj]
 ·simp [yS,zAH,zDW,zAA,b2,zQm,zGV,zN1,eqO,dep,eqD,asB,gtO,e,zCj]
def lc (k:Int):Nat:=(97+k).toNat
theorem zRd {i:Int} (h0:0<=i) (h1:i<26):atI (Str.ofString "abcdefghijklmnopqrstuvwxyz").cps.toList i=some (lc i):=by
 have q:∀ k:Fin 26,atI (Str.ofString "abcdefghijklmnopqrstuvwxyz").cps.toList (k.1:Int)=some (lc (k.1:Int)):=by decide +kernel
 have q:=q ⟨i.toNat,by omega⟩
 rwa [show ((i.toNat:Nat):Int)=i from Int.toNat_of_nonneg h0] at q
theorem zIp:(Str.ofString "abcdefghijklmnopqrstuvwxyz").length<=1000000:=by decide +kernel
theorem zEz {i:Int} (h0:0<=i) (h1:i<26):ixO (.str (Str.ofString "abcdefghijklmnopqrstuvwxyz")) (.int i)=some (.str ⟨#[lc i]⟩):=by
 simp only [ixO,zIp,zVU,zRd h0 h1,zUx]
theorem zRe {i:Int} (h0:0<=i) (h1:i<26):97<=lc i/\lc i<=122:=by unfold lc;omega
def sg (c j:Int):Nat:=lc ((mix c 9923 26+9*j)%26)
theorem sg_ok (c j:Int):97<=sg c j/\sg c j<=122:=zRe (zV9 _ (by decide)) (zV2 _ (by decide))
theorem emp:(Str.ofString "")=⟨#[]⟩:=by decide +kernel
theorem pick (l:List Nat):∀ (k i:Nat),i+k<=l.length->((List.range k).map (λm=>i+m)).filterMap (λj=>l.toArray[j]?)=(l.drop i).take k
 |0,i,_=>by simp
 |k+1,i,h=>by
  have hi:i<l.length:=by omega
  have e:(List.range (k+1)).map (λm=>i+m)=i::(List.range k).map (λm=>i+1+m):=by
   rw [List.range_succ_eq_map,zUc,zVa]
   congr 1
   apply zVc
   intro a _
   simp only [Function.comp]
   omega
  rw [e,zVm,pick l k (i+1) (by omega)]
  have e2:l.toArray[i]?=some l[i]:=by simp [hi]
  rw [e2,zV6 hi,List.take_succ_cons]
theorem zHv (a:Int) (n i:Nat) (h:a=(i:Int)):(List.range n).map (λ(k:Nat)=>(a+1*(k:Int)).toNat)=(List.range n).map (λm=>i+m):=by
 apply zVc
 intro k _
 subst h
 omega
theorem zF4 (l:List Nat) (n:Nat) (h:n<=l.length):Txt.slice ⟨l.toArray⟩ none (some (n:Int))=⟨(l.take n).toArray⟩:=by
 have e1:Builtin.Str.strSliceIndices none (some (n:Int)) 1 l.length=(List.range n).map (λm=>0+m):=by
  unfold Builtin.Str.strSliceIndices sliceRange
  have h1:(1:Int)>0:=by decide
  have h2:¬ ((n:Int)<0):=by omega
  have h3:max 0 (min (n:Int) (l.length:Int))=(n:Int):=by omega
  simp only [h1,zVU,h2,zVg,h3]
  have h4:(if (0:Int)<(n:Int) then ((n:Int)-0+1-1)/1 else 0).toNat=n:=by
   split
   ·rw [Int.ediv_one];omega
   ·omega
  rw [h4]
  exact zHv 0 n 0 rfl
 unfold Txt.slice
 have e0:(⟨l.toArray⟩:Str).length=l.length:=by simp [Str.length]
 rw [e0,e1]
 split
 ·rename_i q
  have:n=l.length:=by simpa using q
  subst this
  rw [zWz]
 ·have:=pick l n 0 (by omega)
  rw [List.drop_zero] at this
  exact zVX (λx=>(⟨x.toArray⟩:Str)) this
theorem zKk (l:List Nat) (n:Nat) (h:n<=l.length):Txt.slice ⟨l.toArray⟩ (some (n:Int)) none=⟨(l.drop n).toArray⟩:=by
 have e1:Builtin.Str.strSliceIndices (some (n:Int)) none 1 l.length=(List.range (l.length-n)).map (λm=>n+m):=by
  unfold Builtin.Str.strSliceIndices sliceRange
  have h1:(1:Int)>0:=by decide
  have h2:¬ ((n:Int)<0):=by omega
  have h3:max 0 (min (n:Int) (l.length:Int))=(n:Int):=by omega
  simp only [h1,zVU,h2,zVg,h3]
  have h4:(if (n:Int)<(l.length:Int) then ((l.length:Int)-(n:Int)+1-1)/1 else 0).toNat=l.length-n:=by
   split
   ·rw [Int.ediv_one];omega
   ·omega
  rw [h4]
  exact zHv (n:Int) _ n rfl
 unfold Txt.slice
 have e0:(⟨l.toArray⟩:Str).length=l.length:=by simp [Str.length]
 rw [e0,e1]
 split
 ·rename_i q
  have:n=0:=by
   have q':l.length-n=l.length:=by simpa using q
   cases l with
   |nil=>simpa using h
   |cons _ _=>simp at q';omega
  subst this
  rfl
 ·have:=pick l (l.length-n) n (by omega)
  have e3:(l.drop n).take (l.length-n)=l.drop n:=by
   rw [<- zWx];exact zWz
  rw [e3] at this
  exact zVX (λx=>(⟨x.toArray⟩:Str)) this
theorem zMe (a b:List Nat):(⟨a.toArray⟩:Str)++(⟨b.toArray⟩:Str)=⟨(a++b).toArray⟩:=by
 show Str.append _ _=_
 simp [Str.append]
theorem zIq (a:List Nat):(⟨a.toArray⟩:Str).length=a.length:=by simp [Str.length]
theorem join0:Txt.join ⟨#[]⟩ []=⟨([]:List Nat).toArray⟩:=rfl
theorem join1 (A:Nat):Txt.join ⟨#[]⟩ [⟨#[A]⟩]=⟨[A].toArray⟩:=rfl
theorem join2 (A B:Nat):Txt.join ⟨#[]⟩ [⟨#[A]⟩,⟨#[B]⟩]=⟨[A,B].toArray⟩:=rfl
theorem zIr (A:Nat):(⟨#[A]⟩:Str).length=1:=rfl
theorem zIs:(⟨#[]⟩:Str).length=0:=rfl
theorem zOf (A:Nat):(⟨#[A]⟩:Str)=⟨[A].toArray⟩:=rfl
theorem zMf (c:Int):∃ T:List Nat,(∀ x∈T,97<=x/\x<=122)/\T.length<=2/\∀ s1 s3 s4 s5:Sl,qu [.v (.int c),s1,.v (.str (Str.ofString "abcdefghijklmnopqrstuvwxyz")),s3,s4,s5]=zBy [.v (.int c),s1,.v (.str (Str.ofString "abcdefghijklmnopqrstuvwxyz")),s3,.v (.str ⟨T.toArray⟩),s5]:=by
 have h1:=yd c 9887 (m:=3) (by decide)
 have h2:=ye c 9887 (m:=3) (by decide)
 have g0:=zEz (yd (c+0) 9941 (m:=26) (by decide)) (ye (c+0) 9941 (m:=26) (by decide))
 have g1:=zEz (yd (c+3) 9941 (m:=26) (by decide)) (ye (c+3) 9941 (m:=26) (by decide))
 have o0:=zRe (yd (c+0) 9941 (m:=26) (by decide)) (ye (c+0) 9941 (m:=26) (by decide))
 have o1:=zRe (yd (c+3) 9941 (m:=26) (by decide)) (ye (c+3) 9941 (m:=26) (by decide))
 have r2:List.range 2 = [0,1]:=rfl
 have cs:mix c 9887 3=0\/mix c 9887 3=1\/mix c 9887 3=2:=by omega
 rcases cs with e|e|e
 ·exact ⟨[],by simp,by simp,λs1 s3 s4 s5=>by exists 0,qu,qv,e,r2,zKc,zGW,emp,join0,zIr,zIs,List.sum_cons,List.sum_nil,zVe,List.range_zero⟩
 ·exact ⟨[lc (mix (c+0) 9941 26)],by simpa using o0,by simp,λs1 s3 s4 s5=>by exists 0,qu,qv,e,r2,zKc,zGW,emp,join1,zIr,zIs,List.sum_cons,List.sum_nil,zVe,zVi,g0⟩
 ·exact ⟨[lc (mix (c+0) 9941 26),lc (mix (c+3) 9941 26)],by simpa using And.intro o0 o1,by simp,λs1 s3 s4 s5=>by exists 0,qu,qv,e,r2,zKc,zGW,emp,join2,zIr,zIs,List.sum_cons,List.sum_nil,zVe,zVW,g0,g1⟩
theorem zRf (c:Int):∃ pre post:List Nat,(∀ x∈pre++post,97<=x/\x<=122)/\pre.length+post.length<=2/\∀ j:Int,yN [.int c,.int j]=some (.str ⟨(pre++sg c j::post).toArray⟩):=by
 obtain ⟨T,o,q1,ht⟩:=zMf c
 have h1:=yd c 9883 (m:=(T.length:Int)+1) (by omega)
 have h2:=ye c 9883 (m:=(T.length:Int)+1) (by omega)
 obtain ⟨n,en⟩:∃ n:Nat,mix c 9883 ((T.length:Int)+1)=(n:Int):=⟨(mix c 9883 ((T.length:Int)+1)).toNat,by omega⟩
 have hn:n<=T.length:=by omega
 have hs:∀ j:Int,ixO (.str (Str.ofString "abcdefghijklmnopqrstuvwxyz")) (.int ((mix c 9923 26+9*j)%26))=some (.str ⟨#[sg c j]⟩):=λj=>zEz (zV9 _ (by decide)) (zV2 _ (by decide))
 have e1:=zF4 T n hn
 have e2:=zKk T n hn
 have q2:T.length<=1000000:=by omega
 have q3:(0:Int)<(T.length:Int)+1:=by omega
 have l1:(T.take n).length<=999999:=by simp;omega
 have l2:(T.take n).length+1+(T.drop n).length<=1000000:=by simp;omega
 refine ⟨T.take n,T.drop n,by rwa [List.take_append_drop],by simp;omega,λj=>?_⟩
 exists 0,yN,zDf,zBy,ht,qv,hs,zIq,en,e1,e2,zOf,zMe,q2,q3,l1,l2,zVE,zVZ
def Lt (a b:Str):Prop:=ltS a b=true
theorem Lt.def {a b:Str}:Lt a b↔a.cps.toList<b.cps.toList:=by simp [Lt,ltS]
theorem zMg {a b:Str} (h:a.cps.toList=b.cps.toList):a=b:=by
 cases a;cases b;simp only [Str.mk.injEq];exact Array.toList_inj.mp h
theorem Lt.trans {a b c:Str} (h:Lt a b) (k:Lt b c):Lt a c:=by
 rw [Lt.def] at *;exact List.lt_trans h k
theorem Lt.irrefl {a:Str}:¬ Lt a a:=by rw [Lt.def];exact List.lt_irrefl _
theorem Lt.total {a b:Str} (h:¬ Lt b a) (n:a≠b):Lt a b:=by
 rw [Lt.def] at *
 rcases List.le_total (l₁:=a.cps.toList) (l₂:=b.cps.toList) with q|q
 ·rcases Classical.em (a.cps.toList<b.cps.toList) with z|z
  ·exact z
  ·exact absurd (zMg (List.le_antisymm q (zWW.mp z))) n
 ·exact absurd (zMg (List.le_antisymm (zWW.mp h) q)) n
theorem Lt.ne {a b:Str} (h:Lt a b):a≠b:=λe=>by subst e;exact Lt.irrefl h
abbrev yf (l:List Str):Prop:=l.Pairwise Lt
theorem zGi {x y:Str}:∀ {l:List Str},y∈zIe x l↔y=x\/y∈l
 | []=>by simp [zIe]
 |z::l=>by
  simp only [zIe]
  split
  ·simp only [zUg,zGi (l:=l)]
   constructor
   ·rintro (h|h|h)<;>simp [h]
   ·rintro (h|h|h)<;>simp [h]
  ·simp
theorem zE0 {x:Str}:∀ {l:List Str},yf l->(∀ y∈l,x≠y)->yf (zIe x l)
 | [],_,_=>by simp [zIe]
 |z::l,h,n=>by
  obtain ⟨h1,h2⟩:=zUu.mp h
  simp only [zIe]
  split
  ·rename_i q
   refine zUu.mpr ⟨λy hy=>?_,zE0 h2 λy hy=>n y (zUY _ hy)⟩
   rcases zGi.mp hy with rfl|hy
   ·exact q
   ·exact h1 y hy
  ·rename_i q
   have hz:Lt x z:=Lt.total (by simpa [Lt] using q) (n z zUd)
   exact zUu.mpr ⟨λy hy=>by
    rcases zUg.mp hy with rfl|hy
    ·exact hz
    ·exact hz.trans (h1 y hy),h⟩
theorem zBC {y:Str}:∀ {l:List Str},y∈zAw l↔y∈l
 | []=>by simp [zAw]
 |x::l=>by simp only [zAw,zGi,zBC (l:=l),zUg]
theorem zJq {x:Str}:∀ {l:List Str},(zIe x l).length=l.length+1
 | []=>rfl
 |z::l=>by simp only [zIe];split<;>simp [zJq (l:=l)]
theorem zBD:∀ {l:List Str},(zAw l).length=l.length
 | []=>rfl
 |x::l=>by simp only [zAw,zJq,zBD (l:=l),zUa]
theorem qw:∀ {l:List Str},l.Nodup->yf (zAw l)
 | [],_=>by simp [zAw]
 |x::l,h=>by
  obtain ⟨h1,h2⟩:=zVC.mp h
  exact zE0 (qw h2) λy hy e=>h1 (by subst e;exact zBC.mp hy)
theorem zOg (l:List Str):RD.zGW (l.map D.str)=some l:=by
 induction l with
 |nil=>rfl
 |cons x xs ih=>simp [RD.zGW,ih]
theorem zC6 {l:List Str} (h:l.length<64):zCw (.lst (l.map D.str))=some ((zAw l).map D.str):=by
 cases l with
 |nil=>rfl
 |cons x xs=>
  have e:=zOg (x::xs)
  simp only [zUc] at e
  simp only [zCw,zFV,zPn,zUb,zUc,zUa,zUi,zKa]
  rw [zUp (by simpa using h),e]
  simp
def okW (w:Str):Prop:=1<=w.length/\w.length<=3/\∀ x∈w.cps.toList,97<=x/\x<=122
theorem len3 {α:Type} {l:List α} (h:l.length=3):∃ a b c,l = [a,b,c]:=by
 match l,h with
 | [a,b,c],_=>exact ⟨a,b,c,rfl⟩
theorem len2 {α:Type} {l:List α} (h:l.length=2):∃ a b,l = [a,b]:=by
 match l,h with
 | [a,b],_=>exact ⟨a,b,rfl⟩
theorem len1 {α:Type} {l:List α} (h:l.length=1):∃ a,l = [a]:=by
 match l,h with
 | [a],_=>exact ⟨a,rfl⟩
theorem zGj (c:Int):∃ W:Int->Str,(∀ j,okW (W j))/\(∀ j,yN [.int c,.int j]=some (.str (W j)))/\W 0≠W 1/\W 0≠W 2/\W 1≠W 2:=by
 obtain ⟨pre,post,h1,h2,h3⟩:=zRf c
 have inj:∀ i j:Int,sg c i≠sg c j->(⟨(pre++sg c i::post).toArray⟩:Str)≠⟨(pre++sg c j::post).toArray⟩:=λi j n e=>by
  have e2:=zVX (λs:Str=>s.cps.toList) e
  simp at e2
  exact n e2
 have b0:=yd c 9923 (m:=26) (by decide)
 have b1:=ye c 9923 (m:=26) (by decide)
 have nn:∀ j:Int,0<=(mix c 9923 26+9*j)%26:=λj=>zV9 _ (by decide)
 refine ⟨λj=>⟨(pre++sg c j::post).toArray⟩,λj=>⟨by simp [Str.length];omega,by simp [Str.length];omega,λx hx=>?_⟩,h3,inj 0 1 ?_,inj 0 2 ?_,inj 1 2 ?_⟩
 ·simp at hx
  rcases hx with hx|rfl|hx
  ·exact h1 x (by simp [hx])
  ·exact sg_ok c j
  ·exact h1 x (by simp [hx])
 all_goals (unfold sg lc;have:=nn 0;have:=nn 1;have:=nn 2;omega)
inductive Pl where
 |fin|tell (a b:Int) (ch:List (Str×Int))
def chD (p:Str×Int):D:=.tup [.str p.1,.int p.2]
def plD:Pl->D
 |.fin=>.tup [.str "end"]
 |.tell a b ch=>.tup [.str "tell",.int a,.int b,.tup (ch.map chD)]
structure okT (m:Int) (P:Int->Prop) (a b:Int) (ch:List (Str×Int)):Prop where
 a0:0<=a
 a1:a<m
 b0:0<=b
 b1:b<m
 ne:a≠b
 l0:1<=ch.length
 l1:ch.length<=3
 rs:yf (ch.map (·.1))
 wd:∀ p∈ch,okW p.1
 nx:∀ p∈ch,P p.2
def okP (m:Int) (P:Int->Prop):Pl->Prop
 |.fin=>True
 |.tell a b ch=>okT m P a b ch
theorem okP.mono {m:Int} {P Q:Int->Prop} (h:∀ n,P n->Q n):∀ {p:Pl},okP m P p->okP m Q p
 |.fin,_=>trivial
 |.tell a b ch,k=>⟨k.a0,k.a1,k.b0,k.b1,k.ne,k.l0,k.l1,k.rs,k.wd,λp hp=>h _ (k.nx p hp)⟩
def zn (m:Int) (P:Int->Prop) (ds:List D):Prop:=∃ ps:List Pl,ds=ps.map plD/\∀ p∈ps,okP m P p/\p≠.fin
def pr (e h a b:Int):Nat:=if a=e/\b=h then 1 else 0
theorem zIt (e h a b:Int):pr e h a b<=1:=by unfold pr;split<;>omega
def zMh (e h:Int):D->Nat
 |.tup [_,.int a,.int b,.tup ch]=>ch.length*pr e h a b
 |_=>0
def qZ (e h:Int):List D->Nat
 | []=>0
 |d::ds=>zMh e h d+qZ e h ds
theorem zEJ (e h:Int):∀ xs ys:List D,qZ e h (xs++ys)=qZ e h xs+qZ e h ys
 | [],_=>by simp [qZ]
 |x::xs,ys=>by simp only [zVd,qZ,zEJ e h xs ys];omega
theorem zn.nil {m:Int} {P:Int->Prop}:zn m P []:=⟨[],rfl,by simp⟩
theorem zn.app {m:Int} {P:Int->Prop} {xs ys:List D} (h:zn m P xs) (k:zn m P ys):zn m P (xs++ys):=by
 obtain ⟨p,rfl,h⟩:=h
 obtain ⟨q,rfl,k⟩:=k
 refine ⟨p++q,by simp,λx hx=>?_⟩
 rcases zUj.mp hx with hx|hx
 ·exact h x hx
 ·exact k x hx
theorem zn.mono {m:Int} {P Q:Int->Prop} {ds:List D} (h:zn m P ds) (k:∀ n,P n->Q n):zn m Q ds:=by
 obtain ⟨ps,e,h⟩:=h
 exact ⟨ps,e,λp hp=>⟨(h p hp).1.mono k,(h p hp).2⟩⟩
theorem zn.cons {m:Int} {P:Int->Prop} {ds:List D} (p:Pl) (hp:okP m P p) (h:zn m P ds) (hf:p≠.fin:=by simp):zn m P (plD p::ds):=by
 obtain ⟨ps,rfl,h⟩:=h
 exact ⟨p::ps,rfl,λq hq=>by
  rcases zUg.mp hq with rfl|hq
  ·exact ⟨hp,hf⟩
  ·exact h q hq⟩
theorem zn.t1 {m:Int} {P:Int->Prop} {ds:List D} {a b:Int} {w:Str} {n:Int} (h1:0<=a/\a<m) (h2:0<=b/\b<m) (h3:a≠b) (hw:okW w) (hn:P n) (h:zn m P ds) :
  zn m P (.tup [.str "tell",.int a,.int b,.tup [.tup [.str w,.int n]]]::ds):=
 zn.cons (.tell a b [(w,n)]) ⟨h1.1,h1.2,h2.1,h2.2,h3,by simp,by simp,by simp,by simpa using hw,by simpa using hn⟩ h
theorem zn.t2 {m:Int} {P:Int->Prop} {ds:List D} {a b:Int} {w w':Str} {n n':Int} (h1:0<=a/\a<m) (h2:0<=b/\b<m) (h3:a≠b) (hr:yf [w,w']) (hw:okW w) (hw':okW w') (hn:P n) (hn':P n') (h:zn m P ds) :
  zn m P (.tup [.str "tell",.int a,.int b,.tup [.tup [.str w,.int n],.tup [.str w',.int n']]]::ds):=
 zn.cons (.tell a b [(w,n),(w',n')]) ⟨h1.1,h1.2,h2.1,h2.2,h3,by simp,by simp,hr,by simp [hw,hw'],by simp [hn,hn']⟩ h
theorem zn.t3 {m:Int} {P:Int->Prop} {ds:List D} {a b:Int} {w w' w'':Str} {n n' n'':Int} (h1:0<=a/\a<m) (h2:0<=b/\b<m) (h3:a≠b) (hr:yf [w,w',w'']) (hw:okW w) (hw':okW w') (hw'':okW w'') (hn:P n) (hn':P n') (hn'':P n'') (h:zn m P ds) :
  zn m P (.tup [.str "tell",.int a,.int b,.tup [.tup [.str w,.int n],.tup [.str w',.int n'],.tup [.str w'',.int n'']]]::ds):=
 zn.cons (.tell a b [(w,n),(w',n'),(w'',n'')]) ⟨h1.1,h1.2,h2.1,h2.2,h3,by simp,by simp,hr,by simp [hw,hw',hw''],by simp [hn,hn',hn'']⟩ h
theorem r2:List.range 2 = [0,1]:=rfl
theorem r3:List.range 3 = [0,1,2]:=rfl
def tl (a b:Int) (l:List (Str×Int)):D:=.tup [.str "tell",.int a,.int b,.tup (l.map λ(w,n)=>.tup [.str w,.int n])]
theorem zAY {e h a b:Int} {l:List (Str×Int)}:zMh e h (tl a b l)=l.length*pr e h a b:=by simp [zMh,tl]
theorem zIu {e h a x y z:Int} (h1:x≠y) (h2:x≠z) (h3:y≠z):pr e h a x+pr e h a y+pr e h a z<=1:=by unfold pr;split<;>split<;>split<;>omega
theorem zIv {e h a x y:Int} (h1:x≠y):pr e h a x+pr e h a y<=1:=by unfold pr;split<;>split<;>omega
theorem zMi {e h a x y:Int} (n1:a≠x) (n3:x≠y):pr e h a x+pr e h a y+pr e h x y<=1:=by unfold pr;split<;>split<;>split<;>omega
theorem zMj {e h a x y z:Int} (n1:a≠x) (n3:x≠y) (n5:y≠z):pr e h a x+pr e h a y+pr e h x y+pr e h x z<=1:=by unfold pr;split<;>split<;>split<;>split<;>omega
theorem zOh {st g0 g1 g2 one o0 o1:Int} {w0:Str} (hr:yf [w0]) (hw0:okW w0) (h1:0<=one/\one<3) (q0:0<=o0/\o0<3) (q1:0<=o1/\o1<3) (n1:one≠o0) (n2:one≠o1) (n3:o0≠o1)  :
  ∃ ds,zl [.int st,.lst [.int g0,.int g1,.int g2],.int one,.lst [.int o0,.int o1],.lst [.str w0]]=some (.lst ds)/\ds.length=3/\zn 3 (λn=>(st<n/\n<st+3)\/n=g0\/n=g1\/n=g2) ds/\∀ e h,qZ e h ds<=3:=by
 refine' ⟨[tl one o0 [(w0,st+1+0)],tl one o1 [(w0,st+1+0+1)],tl o0 o1 [(w0,g0)]],?h,?l,?g,?c⟩
 case h=>kernel_rfl
 case l=>rfl
 case g=>
  refine zn.t1 h1 q0 n1 hw0 (by omega) ?_
  refine zn.t1 h1 q1 n2 hw0 (by omega) ?_
  refine zn.t1 q0 q1 n3 hw0 (by omega) ?_
  exact zn.nil
 case c=>
  intro e h
  simp only [qZ,zAY,zUa,zUq]
  have:=zMi (e:=e) (h:=h) n1 n3
  omega
theorem zOi {st g0 g1 g2 one o0 o1 o2:Int} {w0:Str} (hr:yf [w0]) (hw0:okW w0) (h1:0<=one/\one<4) (q0:0<=o0/\o0<4) (q1:0<=o1/\o1<4) (q2:0<=o2/\o2<4) (n1:one≠o0) (n2:one≠o1) (n3:o0≠o1) (n4:o0≠o2) (n5:o1≠o2) :
  ∃ ds,zl [.int st,.lst [.int g0,.int g1,.int g2],.int one,.lst [.int o0,.int o1,.int o2],.lst [.str w0]]=some (.lst ds)/\ds.length=4/\zn 4 (λn=>(st<n/\n<st+4)\/n=g0\/n=g1\/n=g2) ds/\∀ e h,qZ e h ds<=3:=by
 refine' ⟨[tl one o0 [(w0,st+1+0)],tl one o1 [(w0,st+1+0+1)],tl o0 o1 [(w0,st+1+0+1+1)],tl o0 o2 [(w0,g0)]],?h,?l,?g,?c⟩
 case h=>kernel_rfl
 case l=>rfl
 case g=>
  refine zn.t1 h1 q0 n1 hw0 (by omega) ?_
  refine zn.t1 h1 q1 n2 hw0 (by omega) ?_
  refine zn.t1 q0 q1 n3 hw0 (by omega) ?_
  refine zn.t1 q0 q2 n4 hw0 (by omega) ?_
  exact zn.nil
 case c=>
  intro e h
  simp only [qZ,zAY,zUa,zUq]
  have:=zMj (e:=e) (h:=h) n1 n3 n5
  omega
theorem zOj {st g0 g1 g2 one o0 o1:Int} {w0 w1:Str} (hr:yf [w0,w1]) (hw0:okW w0) (hw1:okW w1) (h1:0<=one/\one<3) (q0:0<=o0/\o0<3) (q1:0<=o1/\o1<3) (n1:one≠o0) (n2:one≠o1) (n3:o0≠o1)  :
  ∃ ds,zl [.int st,.lst [.int g0,.int g1,.int g2],.int one,.lst [.int o0,.int o1],.lst [.str w0,.str w1]]=some (.lst ds)/\ds.length=5/\zn 3 (λn=>(st<n/\n<st+5)\/n=g0\/n=g1\/n=g2) ds/\∀ e h,qZ e h ds<=3:=by
 refine' ⟨[tl one o0 [(w0,st+1+0),(w1,st+1+2)],tl one o1 [(w0,st+1+0+1)],tl o0 o1 [(w0,g0)],tl one o1 [(w0,st+1+2+1)],tl o0 o1 [(w1,g1)]],?h,?l,?g,?c⟩
 case h=>kernel_rfl
 case l=>rfl
 case g=>
  refine zn.t2 h1 q0 n1 hr hw0 hw1 (by omega) (by omega) ?_
  refine zn.t1 h1 q1 n2 hw0 (by omega) ?_
  refine zn.t1 q0 q1 n3 hw0 (by omega) ?_
  refine zn.t1 h1 q1 n2 hw0 (by omega) ?_
  refine zn.t1 q0 q1 n3 hw1 (by omega) ?_
  exact zn.nil
 case c=>
  intro e h
  simp only [qZ,zAY,zUa,zUq]
  have:=zMi (e:=e) (h:=h) n1 n3
  omega
theorem zOk {st g0 g1 g2 one o0 o1 o2:Int} {w0 w1:Str} (hr:yf [w0,w1]) (hw0:okW w0) (hw1:okW w1) (h1:0<=one/\one<4) (q0:0<=o0/\o0<4) (q1:0<=o1/\o1<4) (q2:0<=o2/\o2<4) (n1:one≠o0) (n2:one≠o1) (n3:o0≠o1) (n4:o0≠o2) (n5:o1≠o2) :
  ∃ ds,zl [.int st,.lst [.int g0,.int g1,.int g2],.int one,.lst [.int o0,.int o1,.int o2],.lst [.str w0,.str w1]]=some (.lst ds)/\ds.length=7/\zn 4 (λn=>(st<n/\n<st+7)\/n=g0\/n=g1\/n=g2) ds/\∀ e h,qZ e h ds<=3:=by
 refine' ⟨[tl one o0 [(w0,st+1+0),(w1,st+1+3)],tl one o1 [(w0,st+1+0+1)],tl o0 o1 [(w0,st+1+0+1+1)],tl o0 o2 [(w0,g0)],tl one o1 [(w0,st+1+3+1)],tl o0 o1 [(w1,st+1+3+1+1)],tl o0 o2 [(w1,g1)]],?h,?l,?g,?c⟩
 case h=>kernel_rfl
 case l=>rfl
 case g=>
  refine zn.t2 h1 q0 n1 hr hw0 hw1 (by omega) (by omega) ?_
  refine zn.t1 h1 q1 n2 hw0 (by omega) ?_
  refine zn.t1 q0 q1 n3 hw0 (by omega) ?_
  refine zn.t1 q0 q2 n4 hw0 (by omega) ?_
  refine zn.t1 h1 q1 n2 hw0 (by omega) ?_
  refine zn.t1 q0 q1 n3 hw1 (by omega) ?_
  refine zn.t1 q0 q2 n4 hw1 (by omega) ?_
  exact zn.nil
 case c=>
  intro e h
  simp only [qZ,zAY,zUa,zUq]
  have:=zMj (e:=e) (h:=h) n1 n3 n5
  omega
theorem zOl {st g0 g1 g2 one o0 o1:Int} {w0 w1 w2:Str} (hr:yf [w0,w1,w2]) (hw0:okW w0) (hw1:okW w1) (hw2:okW w2) (h1:0<=one/\one<3) (q0:0<=o0/\o0<3) (q1:0<=o1/\o1<3) (n1:one≠o0) (n2:one≠o1) (n3:o0≠o1)  :
  ∃ ds,zl [.int st,.lst [.int g0,.int g1,.int g2],.int one,.lst [.int o0,.int o1],.lst [.str w0,.str w1,.str w2]]=some (.lst ds)/\ds.length=7/\zn 3 (λn=>(st<n/\n<st+7)\/n=g0\/n=g1\/n=g2) ds/\∀ e h,qZ e h ds<=3:=by
 refine' ⟨[tl one o0 [(w0,st+1+0),(w1,st+1+2),(w2,st+1+4)],tl one o1 [(w0,st+1+0+1)],tl o0 o1 [(w0,g0)],tl one o1 [(w0,st+1+2+1)],tl o0 o1 [(w1,g1)],tl one o1 [(w0,st+1+4+1)],tl o0 o1 [(w2,g2)]],?h,?l,?g,?c⟩
 case h=>kernel_rfl
 case l=>rfl
 case g=>
  refine zn.t3 h1 q0 n1 hr hw0 hw1 hw2 (by omega) (by omega) (by omega) ?_
  refine zn.t1 h1 q1 n2 hw0 (by omega) ?_
  refine zn.t1 q0 q1 n3 hw0 (by omega) ?_
  refine zn.t1 h1 q1 n2 hw0 (by omega) ?_
  refine zn.t1 q0 q1 n3 hw1 (by omega) ?_
  refine zn.t1 h1 q1 n2 hw0 (by omega) ?_
  refine zn.t1 q0 q1 n3 hw2 (by omega) ?_
  exact zn.nil
 case c=>
  intro e h
  simp only [qZ,zAY,zUa,zUq]
  have:=zMi (e:=e) (h:=h) n1 n3
  omega
theorem zOm {st g0 g1 g2 one o0 o1 o2:Int} {w0 w1 w2:Str} (hr:yf [w0,w1,w2]) (hw0:okW w0) (hw1:okW w1) (hw2:okW w2) (h1:0<=one/\one<4) (q0:0<=o0/\o0<4) (q1:0<=o1/\o1<4) (q2:0<=o2/\o2<4) (n1:one≠o0) (n2:one≠o1) (n3:o0≠o1) (n4:o0≠o2) (n5:o1≠o2) :
  ∃ ds,zl [.int st,.lst [.int g0,.int g1,.int g2],.int one,.lst [.int o0,.int o1,.int o2],.lst [.str w0,.str w1,.str w2]]=some (.lst ds)/\ds.length=10/\zn 4 (λn=>(st<n/\n<st+10)\/n=g0\/n=g1\/n=g2) ds/\∀ e h,qZ e h ds<=3:=by
 refine' ⟨[tl one o0 [(w0,st+1+0),(w1,st+1+3),(w2,st+1+6)],tl one o1 [(w0,st+1+0+1)],tl o0 o1 [(w0,st+1+0+1+1)],tl o0 o2 [(w0,g0)],tl one o1 [(w0,st+1+3+1)],tl o0 o1 [(w1,st+1+3+1+1)],tl o0 o2 [(w1,g1)],tl one o1 [(w0,st+1+6+1)],tl o0 o1 [(w2,st+1+6+1+1)],tl o0 o2 [(w2,g2)]],?h,?l,?g,?c⟩
 case h=>kernel_rfl
 case l=>rfl
 case g=>
  refine zn.t3 h1 q0 n1 hr hw0 hw1 hw2 (by omega) (by omega) (by omega) ?_
  refine zn.t1 h1 q1 n2 hw0 (by omega) ?_
  refine zn.t1 q0 q1 n3 hw0 (by omega) ?_
  refine zn.t1 q0 q2 n4 hw0 (by omega) ?_
  refine zn.t1 h1 q1 n2 hw0 (by omega) ?_
  refine zn.t1 q0 q1 n3 hw1 (by omega) ?_
  refine zn.t1 q0 q2 n4 hw1 (by omega) ?_
  refine zn.t1 h1 q1 n2 hw0 (by omega) ?_
  refine zn.t1 q0 q1 n3 hw2 (by omega) ?_
  refine zn.t1 q0 q2 n4 hw2 (by omega) ?_
  exact zn.nil
 case c=>
  intro e h
  simp only [qZ,zAY,zUa,zUq]
  have:=zMj (e:=e) (h:=h) n1 n3 n5
  omega
theorem zMk {N:List Str} {F:ROo} {ds:List D} {d:D} (h:F (ds.map Sl.v++List.replicate (N.length-ds.length) .un)=some (.rt d)):zDW N F ds=some d:=by unfold zDW;rw [h];rfl
theorem zt {F G:ROo} {ρ ρ':Rho} (h:F ρ=some (.nx ρ')):sq F G ρ=G ρ':=by simp only [sq,h,zUb]
theorem zTo {F G:ROo} {ρ:Rho} {d:D} (h:F ρ=some (.rt d)):sq F G ρ=some (.rt d):=by simp only [sq,h,zUb]
def b2i (b:Bool):Int:=if b then 1 else 0
theorem srt_1 (c:Int):∃ (W:Int->Str) (w0:Str),(∀ j,yN [.int c,.int j]=some (.str (W j)))/\yf [w0]/\okW w0/\zCw (.lst [.str (W 0)])=some [.str w0]:=by
 obtain ⟨W,hO,hW,n01,n02,n12⟩:=zGj c
 have hsr:yf (zAw [W 0]):=qw (by simp [n01,n02,n12])
 have hsl:=zBD (l:=[W 0])
 have hsm:∀ w∈zAw [W 0],okW w:=λw hw=>by
  have:=zBC.mp hw
  simp only [zUg,List.not_mem_nil,or_false] at this
  rcases this with rfl<;>exact hO _
 have hs:=zC6 (l:=[W 0]) (by simp)
 obtain ⟨w0,ew⟩:=len1 hsl
 rw [ew] at hsr hsm hs
 exact ⟨W,w0,hW,hsr,hsm w0 (by simp),hs⟩
theorem zTp (c:Int):∃ (W:Int->Str) (w0 w1:Str),(∀ j,yN [.int c,.int j]=some (.str (W j)))/\yf [w0,w1]/\okW w0/\okW w1/\zCw (.lst [.str (W 0),.str (W 1)])=some [.str w0,.str w1]:=by
 obtain ⟨W,hO,hW,n01,n02,n12⟩:=zGj c
 have hsr:yf (zAw [W 0,W 1]):=qw (by simp [n01,n02,n12])
 have hsl:=zBD (l:=[W 0,W 1])
 have hsm:∀ w∈zAw [W 0,W 1],okW w:=λw hw=>by
  have:=zBC.mp hw
  simp only [zUg,List.not_mem_nil,or_false] at this
  rcases this with rfl|rfl<;>exact hO _
 have hs:=zC6 (l:=[W 0,W 1]) (by simp)
 obtain ⟨w0,w1,ew⟩:=len2 hsl
 rw [ew] at hsr hsm hs
 exact ⟨W,w0,w1,hW,hsr,hsm w0 (by simp),hsm w1 (by simp),hs⟩
theorem srt_3 (c:Int):∃ (W:Int->Str) (w0 w1 w2:Str),(∀ j,yN [.int c,.int j]=some (.str (W j)))/\yf [w0,w1,w2]/\okW w0/\okW w1/\okW w2/\zCw (.lst [.str (W 0),.str (W 1),.str (W 2)])=some [.str w0,.str w1,.str w2]:=by
 obtain ⟨W,hO,hW,n01,n02,n12⟩:=zGj c
 have hsr:yf (zAw [W 0,W 1,W 2]):=qw (by simp [n01,n02,n12])
 have hsl:=zBD (l:=[W 0,W 1,W 2])
 have hsm:∀ w∈zAw [W 0,W 1,W 2],okW w:=λw hw=>by
  have:=zBC.mp hw
  simp only [zUg,List.not_mem_nil,or_false] at this
  rcases this with rfl|rfl|rfl<;>exact hO _
 have hs:=zC6 (l:=[W 0,W 1,W 2]) (by simp)
 obtain ⟨w0,w1,w2,ew⟩:=len3 hsl
 rw [ew] at hsr hsm hs
 exact ⟨W,w0,w1,w2,hW,hsr,hsm w0 (by simp),hsm w1 (by simp),hsm w2 (by simp),hs⟩
theorem zRg {c:Int} (e:mix c 9949 3=0):∃ w0:Str,yf [w0]/\okW w0/\∀ a1 a2 a3 a4 a5 d,z8 [.v (.int c),a1,a2,a3,a4,a5,.v (.lst [.str w0]),.un,.un,.un,.un,.un,.un]=some (.rt d)->zm [.v (.int c),a1,a2,a3,a4,a5,.un,.un,.un,.un,.un,.un,.un]=some (.rt d):=by
 obtain ⟨W,w0,hW,hsr,hw0,hs⟩:=srt_1 c
 refine ⟨w0,hsr,hw0,λa1 a2 a3 a4 a5 d z=>?_⟩
 unfold zm
 refine (zt (ρ':=[.v (.int c),a1,a2,a3,a4,a5,.v (.lst [.str w0]),.un,.un,.un,.un,.un,.un]) ?_).trans z
 exists 0,zVW,r2,r3,zVi,zVe,List.set,qv,e,hW,hs,atI,ixN,ixO
theorem zRh {c:Int} (e:mix c 9949 3=1):∃ w0 w1:Str,yf [w0,w1]/\okW w0/\okW w1/\∀ a1 a2 a3 a4 a5 d,z8 [.v (.int c),a1,a2,a3,a4,a5,.v (.lst [.str w0,.str w1]),.un,.un,.un,.un,.un,.un]=some (.rt d)->zm [.v (.int c),a1,a2,a3,a4,a5,.un,.un,.un,.un,.un,.un,.un]=some (.rt d):=by
 obtain ⟨W,w0,w1,hW,hsr,hw0,hw1,hs⟩:=zTp c
 refine ⟨w0,w1,hsr,hw0,hw1,λa1 a2 a3 a4 a5 d z=>?_⟩
 unfold zm
 refine (zt (ρ':=[.v (.int c),a1,a2,a3,a4,a5,.v (.lst [.str w0,.str w1]),.un,.un,.un,.un,.un,.un]) ?_).trans z
 exists 0,zVW,r2,r3,zVi,zVe,List.set,qv,e,hW,hs,atI,ixN,ixO
theorem zRi {c:Int} (e:mix c 9949 3=2):∃ w0 w1 w2:Str,yf [w0,w1,w2]/\okW w0/\okW w1/\okW w2/\∀ a1 a2 a3 a4 a5 d,z8 [.v (.int c),a1,a2,a3,a4,a5,.v (.lst [.str w0,.str w1,.str w2]),.un,.un,.un,.un,.un,.un]=some (.rt d)->zm [.v (.int c),a1,a2,a3,a4,a5,.un,.un,.un,.un,.un,.un,.un]=some (.rt d):=by
 obtain ⟨W,w0,w1,w2,hW,hsr,hw0,hw1,hw2,hs⟩:=srt_3 c
 refine ⟨w0,w1,w2,hsr,hw0,hw1,hw2,λa1 a2 a3 a4 a5 d z=>?_⟩
 unfold zm
 refine (zt (ρ':=[.v (.int c),a1,a2,a3,a4,a5,.v (.lst [.str w0,.str w1,.str w2]),.un,.un,.un,.un,.un,.un]) ?_).trans z
 exists 0,zVW,r2,r3,zVi,zVe,List.set,qv,e,hW,hs,atI,ixN,ixO
theorem on_2 (c st g0 g1 g2:Int):∃ one o0:Int,(0<=one/\one<2)/\(0<=o0/\o0<2)/\one≠o0/\∀ d,zm [.v (.int c),.v (.int st),.v (.int 2),.v (.lst [.int g0,.int g1,.int g2]),.v (.int one),.v (.lst [.int o0]),.un,.un,.un,.un,.un,.un,.un]=some (.rt d)->zZ [.int c,.int st,.int 2,.lst [.int g0,.int g1,.int g2]]=some d:=by
 have a0:=yd c 9929 (m:=2) (by decide)
 have a1:=ye c 9929 (m:=2) (by decide)
 have b0:=yd c 9901 (m:=1) (by decide)
 have b1:=ye c 9901 (m:=1) (by decide)
 generalize ho:mix c 9929 2=one at a0 a1
 generalize hr:mix c 9901 1=r at b0 b1
 refine ⟨one,(one+1+r%1)%2,⟨a0,a1⟩,by omega,by omega,λd z=>zMk ((zt (ρ':=[.v (.int c),.v (.int st),.v (.int 2),.v (.lst [.int g0,.int g1,.int g2]),.v (.int one),.un,.un,.un,.un,.un,.un,.un,.un]) ?_).trans ((zt ?_).trans z))⟩
 ·exists 0,zVW,r2,r3,zVi,zVe,List.set,yx,qv,ho,atI,ixN,ixO
 ·exists 0,zVW,r2,r3,zVi,zVe,List.set,qv,hr,atI,ixN,ixO
theorem on_3 (c st g0 g1 g2:Int):∃ one o0 o1:Int,(0<=one/\one<3)/\(0<=o0/\o0<3)/\(0<=o1/\o1<3)/\one≠o0/\one≠o1/\o0≠o1/\∀ d,zm [.v (.int c),.v (.int st),.v (.int 3),.v (.lst [.int g0,.int g1,.int g2]),.v (.int one),.v (.lst [.int o0,.int o1]),.un,.un,.un,.un,.un,.un,.un]=some (.rt d)->zZ [.int c,.int st,.int 3,.lst [.int g0,.int g1,.int g2]]=some d:=by
 have a0:=yd c 9929 (m:=3) (by decide)
 have a1:=ye c 9929 (m:=3) (by decide)
 have b0:=yd c 9901 (m:=2) (by decide)
 have b1:=ye c 9901 (m:=2) (by decide)
 generalize ho:mix c 9929 3=one at a0 a1
 generalize hr:mix c 9901 2=r at b0 b1
 refine ⟨one,(one+1+r%2)%3,(one+1+(1+r)%2)%3,⟨a0,a1⟩,by omega,by omega,by omega,by omega,by omega,λd z=>zMk ((zt (ρ':=[.v (.int c),.v (.int st),.v (.int 3),.v (.lst [.int g0,.int g1,.int g2]),.v (.int one),.un,.un,.un,.un,.un,.un,.un,.un]) ?_).trans ((zt ?_).trans z))⟩
 ·exists 0,zVW,r2,r3,zVi,zVe,List.set,yx,qv,ho,atI,ixN,ixO
 ·exists 0,zVW,r2,r3,zVi,zVe,List.set,qv,hr,atI,ixN,ixO
theorem on_4 (c st g0 g1 g2:Int):∃ one o0 o1 o2:Int,(0<=one/\one<4)/\(0<=o0/\o0<4)/\(0<=o1/\o1<4)/\(0<=o2/\o2<4)/\one≠o0/\one≠o1/\one≠o2/\o0≠o1/\o0≠o2/\o1≠o2/\∀ d,zm [.v (.int c),.v (.int st),.v (.int 4),.v (.lst [.int g0,.int g1,.int g2]),.v (.int one),.v (.lst [.int o0,.int o1,.int o2]),.un,.un,.un,.un,.un,.un,.un]=some (.rt d)->zZ [.int c,.int st,.int 4,.lst [.int g0,.int g1,.int g2]]=some d:=by
 have a0:=yd c 9929 (m:=4) (by decide)
 have a1:=ye c 9929 (m:=4) (by decide)
 have b0:=yd c 9901 (m:=3) (by decide)
 have b1:=ye c 9901 (m:=3) (by decide)
 generalize ho:mix c 9929 4=one at a0 a1
 generalize hr:mix c 9901 3=r at b0 b1
 refine ⟨one,(one+1+r%3)%4,(one+1+(1+r)%3)%4,(one+1+(2+r)%3)%4,⟨a0,a1⟩,by omega,by omega,by omega,by omega,by omega,by omega,by omega,by omega,by omega,λd z=>zMk ((zt (ρ':=[.v (.int c),.v (.int st),.v (.int 4),.v (.lst [.int g0,.int g1,.int g2]),.v (.int one),.un,.un,.un,.un,.un,.un,.un,.un]) ?_).trans ((zt ?_).trans z))⟩
 ·exists 0,zVW,r2,r3,zVi,zVe,List.set,yx,qv,ho,atI,ixN,ixO
 ·exists 0,zVW,r2,r3,zVi,zVe,List.set,qv,hr,atI,ixN,ixO
theorem zGk {c m:Int} {a1 a3 a4 a5 a6:Sl} {d:D} (hl:zCj c m=false) (z:zB0 [.v (.int c),a1,.v (.int m),a3,a4,a5,a6,.un,.un,.un,.un,.un,.un]=some (.rt d)):z8 [.v (.int c),a1,.v (.int m),a3,a4,a5,a6,.un,.un,.un,.un,.un,.un]=some (.rt d):=by
 unfold z8
 refine (zt ?_).trans z
 exists 0,zVW,r2,r3,zVi,zVe,List.set,zMd,hl,atI,ixN,ixO
theorem zKl {c m:Int} {a1 a3 a4 a5 a6 d:D} (hl:zCj c m=true) (e:zl [a1,a3,a4,a5,a6]=some d):z8 [.v (.int c),.v a1,.v (.int m),.v a3,.v a4,.v a5,.v a6,.un,.un,.un,.un,.un,.un]=some (.rt d):=by
 unfold z8
 refine zTo ?_
 exists 0,zVW,r2,r3,zVi,zVe,List.set,zMd,hl,e,atI,ixN,ixO
theorem zOn (c st g0 g1 g2:Int) (e:mix c 9949 3=0) :
  ∃ ds,zZ [.int c,.int st,.int 2,.lst [.int g0,.int g1,.int g2]]=some (.lst ds)/\(ds.length:Int)=1+1*(0+b2i (zCj c 2))/\zn 2 (λn=>(st<n/\n<st+(ds.length:Int))\/n=g0\/n=g1\/n=g2) ds/\∀ e h,qZ e h ds<=3:=by
 obtain ⟨w0,hsr,hw0,wd⟩:=zRg e
 obtain ⟨one,o0,h1,q0,n0,run⟩:=on_2 c st g0 g1 g2
 have hl:zCj c 2=false:=by simp [zCj]
 rw [hl]
 refine' ⟨[tl one o0 [(w0,g0)]],run _ (wd _ _ _ _ _ _ (zGk hl ?h)),?l,?g,?c⟩
 case h=>kernel_rfl
 case l=>rfl
 case g=>
  simp only [zUa,zUq]
  refine zn.t1 h1 q0 n0 hw0 (by simp;try omega) ?_
  exact zn.nil
 case c=>
  intro e h
  simp only [qZ,zAY,zUa,zUq]
  have:=zIt e h one o0
  omega
theorem zOo (c st g0 g1 g2:Int) (e:mix c 9949 3=1) :
  ∃ ds,zZ [.int c,.int st,.int 2,.lst [.int g0,.int g1,.int g2]]=some (.lst ds)/\(ds.length:Int)=1+2*(0+b2i (zCj c 2))/\zn 2 (λn=>(st<n/\n<st+(ds.length:Int))\/n=g0\/n=g1\/n=g2) ds/\∀ e h,qZ e h ds<=3:=by
 obtain ⟨w0,w1,hsr,hw0,hw1,wd⟩:=zRh e
 obtain ⟨one,o0,h1,q0,n0,run⟩:=on_2 c st g0 g1 g2
 have hl:zCj c 2=false:=by simp [zCj]
 rw [hl]
 refine' ⟨[tl one o0 [(w0,g0),(w1,g1)]],run _ (wd _ _ _ _ _ _ (zGk hl ?h)),?l,?g,?c⟩
 case h=>kernel_rfl
 case l=>rfl
 case g=>
  simp only [zUa,zUq]
  refine zn.t2 h1 q0 n0 hsr hw0 hw1 (by simp;try omega) (by simp;try omega) ?_
  exact zn.nil
 case c=>
  intro e h
  simp only [qZ,zAY,zUa,zUq]
  have:=zIt e h one o0
  omega
theorem zOp (c st g0 g1 g2:Int) (e:mix c 9949 3=2) :
  ∃ ds,zZ [.int c,.int st,.int 2,.lst [.int g0,.int g1,.int g2]]=some (.lst ds)/\(ds.length:Int)=1+3*(0+b2i (zCj c 2))/\zn 2 (λn=>(st<n/\n<st+(ds.length:Int))\/n=g0\/n=g1\/n=g2) ds/\∀ e h,qZ e h ds<=3:=by
 obtain ⟨w0,w1,w2,hsr,hw0,hw1,hw2,wd⟩:=zRi e
 obtain ⟨one,o0,h1,q0,n0,run⟩:=on_2 c st g0 g1 g2
 have hl:zCj c 2=false:=by simp [zCj]
 rw [hl]
 refine' ⟨[tl one o0 [(w0,g0),(w1,g1),(w2,g2)]],run _ (wd _ _ _ _ _ _ (zGk hl ?h)),?l,?g,?c⟩
 case h=>kernel_rfl
 case l=>rfl
 case g=>
  simp only [zUa,zUq]
  refine zn.t3 h1 q0 n0 hsr hw0 hw1 hw2 (by simp;try omega) (by simp;try omega) (by simp;try omega) ?_
  exact zn.nil
 case c=>
  intro e h
  simp only [qZ,zAY,zUa,zUq]
  have:=zIt e h one o0
  omega
theorem zOq (c st g0 g1 g2:Int) (e:mix c 9949 3=0) :
  ∃ ds,zZ [.int c,.int st,.int 3,.lst [.int g0,.int g1,.int g2]]=some (.lst ds)/\(ds.length:Int)=1+1*(1+b2i (zCj c 3))/\zn 3 (λn=>(st<n/\n<st+(ds.length:Int))\/n=g0\/n=g1\/n=g2) ds/\∀ e h,qZ e h ds<=3:=by
 obtain ⟨w0,hsr,hw0,wd⟩:=zRg e
 obtain ⟨one,o0,o1,h1,q0,q1,n0,n1,d01,run⟩:=on_3 c st g0 g1 g2
 cases hl:zCj c 3 with
 |true=>
  obtain ⟨ds,e1,e2,e3,e4⟩:=zOh (st:=st) (g0:=g0) (g1:=g1) (g2:=g2) hsr hw0 h1 q0 q1 n0 n1 d01
  exact ⟨ds,run _ (wd _ _ _ _ _ _ (zKl hl e1)),by rw [e2];rfl,by rw [e2];exact e3,e4⟩
 |false=>
  refine' ⟨[tl one o0 [(w0,st+1+0+0)],tl one o1 [(w0,g0)]],run _ (wd _ _ _ _ _ _ (zGk hl ?h)),?l,?g,?c⟩
  case h=>kernel_rfl
  case l=>rfl
  case g=>
   simp only [zUa,zUq]
   refine zn.t1 h1 q0 n0 hw0 (by simp;try omega) ?_
   refine zn.t1 h1 q1 n1 hw0 (by simp;try omega) ?_
   exact zn.nil
  case c=>
   intro e h
   simp only [qZ,zAY,zUa,zUq]
   have:=zIv (e:=e) (h:=h) (a:=one) d01
   omega
theorem zOr (c st g0 g1 g2:Int) (e:mix c 9949 3=1) :
  ∃ ds,zZ [.int c,.int st,.int 3,.lst [.int g0,.int g1,.int g2]]=some (.lst ds)/\(ds.length:Int)=1+2*(1+b2i (zCj c 3))/\zn 3 (λn=>(st<n/\n<st+(ds.length:Int))\/n=g0\/n=g1\/n=g2) ds/\∀ e h,qZ e h ds<=3:=by
 obtain ⟨w0,w1,hsr,hw0,hw1,wd⟩:=zRh e
 obtain ⟨one,o0,o1,h1,q0,q1,n0,n1,d01,run⟩:=on_3 c st g0 g1 g2
 cases hl:zCj c 3 with
 |true=>
  obtain ⟨ds,e1,e2,e3,e4⟩:=zOj (st:=st) (g0:=g0) (g1:=g1) (g2:=g2) hsr hw0 hw1 h1 q0 q1 n0 n1 d01
  exact ⟨ds,run _ (wd _ _ _ _ _ _ (zKl hl e1)),by rw [e2];rfl,by rw [e2];exact e3,e4⟩
 |false=>
  refine' ⟨[tl one o0 [(w0,st+1+0+0),(w1,st+1+1+0)],tl one o1 [(w0,g0)],tl one o1 [(w1,g1)]],run _ (wd _ _ _ _ _ _ (zGk hl ?h)),?l,?g,?c⟩
  case h=>kernel_rfl
  case l=>rfl
  case g=>
   simp only [zUa,zUq]
   refine zn.t2 h1 q0 n0 hsr hw0 hw1 (by simp;try omega) (by simp;try omega) ?_
   refine zn.t1 h1 q1 n1 hw0 (by simp;try omega) ?_
   refine zn.t1 h1 q1 n1 hw1 (by simp;try omega) ?_
   exact zn.nil
  case c=>
   intro e h
   simp only [qZ,zAY,zUa,zUq]
   have:=zIv (e:=e) (h:=h) (a:=one) d01
   omega
theorem zOs (c st g0 g1 g2:Int) (e:mix c 9949 3=2) :
  ∃ ds,zZ [.int c,.int st,.int 3,.lst [.int g0,.int g1,.int g2]]=some (.lst ds)/\(ds.length:Int)=1+3*(1+b2i (zCj c 3))/\zn 3 (λn=>(st<n/\n<st+(ds.length:Int))\/n=g0\/n=g1\/n=g2) ds/\∀ e h,qZ e h ds<=3:=by
 obtain ⟨w0,w1,w2,hsr,hw0,hw1,hw2,wd⟩:=zRi e
 obtain ⟨one,o0,o1,h1,q0,q1,n0,n1,d01,run⟩:=on_3 c st g0 g1 g2
 cases hl:zCj c 3 with
 |true=>
  obtain ⟨ds,e1,e2,e3,e4⟩:=zOl (st:=st) (g0:=g0) (g1:=g1) (g2:=g2) hsr hw0 hw1 hw2 h1 q0 q1 n0 n1 d01
  exact ⟨ds,run _ (wd _ _ _ _ _ _ (zKl hl e1)),by rw [e2];rfl,by rw [e2];exact e3,e4⟩
 |false=>
  refine' ⟨[tl one o0 [(w0,st+1+0+0),(w1,st+1+1+0),(w2,st+1+2+0)],tl one o1 [(w0,g0)],tl one o1 [(w1,g1)],tl one o1 [(w2,g2)]],run _ (wd _ _ _ _ _ _ (zGk hl ?h)),?l,?g,?c⟩
  case h=>kernel_rfl
  case l=>rfl
  case g=>
   simp only [zUa,zUq]
   refine zn.t3 h1 q0 n0 hsr hw0 hw1 hw2 (by simp;try omega) (by simp;try omega) (by simp;try omega) ?_
   refine zn.t1 h1 q1 n1 hw0 (by simp;try omega) ?_
   refine zn.t1 h1 q1 n1 hw1 (by simp;try omega) ?_
   refine zn.t1 h1 q1 n1 hw2 (by simp;try omega) ?_
   exact zn.nil
  case c=>
   intro e h
   simp only [qZ,zAY,zUa,zUq]
   have:=zIv (e:=e) (h:=h) (a:=one) d01
   omega
theorem zOt (c st g0 g1 g2:Int) (e:mix c 9949 3=0) :
  ∃ ds,zZ [.int c,.int st,.int 4,.lst [.int g0,.int g1,.int g2]]=some (.lst ds)/\(ds.length:Int)=1+1*(2+b2i (zCj c 4))/\zn 4 (λn=>(st<n/\n<st+(ds.length:Int))\/n=g0\/n=g1\/n=g2) ds/\∀ e h,qZ e h ds<=3:=by
 obtain ⟨w0,hsr,hw0,wd⟩:=zRg e
 obtain ⟨one,o0,o1,o2,h1,q0,q1,q2,n0,n1,n2,d01,d02,d12,run⟩:=on_4 c st g0 g1 g2
 cases hl:zCj c 4 with
 |true=>
  obtain ⟨ds,e1,e2,e3,e4⟩:=zOi (st:=st) (g0:=g0) (g1:=g1) (g2:=g2) hsr hw0 h1 q0 q1 q2 n0 n1 d01 d02 d12
  exact ⟨ds,run _ (wd _ _ _ _ _ _ (zKl hl e1)),by rw [e2];rfl,by rw [e2];exact e3,e4⟩
 |false=>
  refine' ⟨[tl one o0 [(w0,st+1+0+0)],tl one o1 [(w0,st+1+0+1)],tl one o2 [(w0,g0)]],run _ (wd _ _ _ _ _ _ (zGk hl ?h)),?l,?g,?c⟩
  case h=>kernel_rfl
  case l=>rfl
  case g=>
   simp only [zUa,zUq]
   refine zn.t1 h1 q0 n0 hw0 (by simp;try omega) ?_
   refine zn.t1 h1 q1 n1 hw0 (by simp;try omega) ?_
   refine zn.t1 h1 q2 n2 hw0 (by simp;try omega) ?_
   exact zn.nil
  case c=>
   intro e h
   simp only [qZ,zAY,zUa,zUq]
   have:=zIu (e:=e) (h:=h) (a:=one) d01 d02 d12
   omega
theorem zOu (c st g0 g1 g2:Int) (e:mix c 9949 3=1) :
  ∃ ds,zZ [.int c,.int st,.int 4,.lst [.int g0,.int g1,.int g2]]=some (.lst ds)/\(ds.length:Int)=1+2*(2+b2i (zCj c 4))/\zn 4 (λn=>(st<n/\n<st+(ds.length:Int))\/n=g0\/n=g1\/n=g2) ds/\∀ e h,qZ e h ds<=3:=by
 obtain ⟨w0,w1,hsr,hw0,hw1,wd⟩:=zRh e
 obtain ⟨one,o0,o1,o2,h1,q0,q1,q2,n0,n1,n2,d01,d02,d12,run⟩:=on_4 c st g0 g1 g2
 cases hl:zCj c 4 with
 |true=>
  obtain ⟨ds,e1,e2,e3,e4⟩:=zOk (st:=st) (g0:=g0) (g1:=g1) (g2:=g2) hsr hw0 hw1 h1 q0 q1 q2 n0 n1 d01 d02 d12
  exact ⟨ds,run _ (wd _ _ _ _ _ _ (zKl hl e1)),by rw [e2];rfl,by rw [e2];exact e3,e4⟩
 |false=>
  refine' ⟨[tl one o0 [(w0,st+1+0+0),(w1,st+1+2+0)],tl one o1 [(w0,st+1+0+1)],tl one o2 [(w0,g0)],tl one o1 [(w1,st+1+2+1)],tl one o2 [(w1,g1)]],run _ (wd _ _ _ _ _ _ (zGk hl ?h)),?l,?g,?c⟩
  case h=>kernel_rfl
  case l=>rfl
  case g=>
   simp only [zUa,zUq]
   refine zn.t2 h1 q0 n0 hsr hw0 hw1 (by simp;try omega) (by simp;try omega) ?_
   refine zn.t1 h1 q1 n1 hw0 (by simp;try omega) ?_
   refine zn.t1 h1 q2 n2 hw0 (by simp;try omega) ?_
   refine zn.t1 h1 q1 n1 hw1 (by simp;try omega) ?_
   refine zn.t1 h1 q2 n2 hw1 (by simp;try omega) ?_
   exact zn.nil
  case c=>
   intro e h
   simp only [qZ,zAY,zUa,zUq]
   have:=zIu (e:=e) (h:=h) (a:=one) d01 d02 d12
   omega
theorem zOv (c st g0 g1 g2:Int) (e:mix c 9949 3=2) :
  ∃ ds,zZ [.int c,.int st,.int 4,.lst [.int g0,.int g1,.int g2]]=some (.lst ds)/\(ds.length:Int)=1+3*(2+b2i (zCj c 4))/\zn 4 (λn=>(st<n/\n<st+(ds.length:Int))\/n=g0\/n=g1\/n=g2) ds/\∀ e h,qZ e h ds<=3:=by
 obtain ⟨w0,w1,w2,hsr,hw0,hw1,hw2,wd⟩:=zRi e
 obtain ⟨one,o0,o1,o2,h1,q0,q1,q2,n0,n1,n2,d01,d02,d12,run⟩:=on_4 c st g0 g1 g2
 cases hl:zCj c 4 with
 |true=>
  obtain ⟨ds,e1,e2,e3,e4⟩:=zOm (st:=st) (g0:=g0) (g1:=g1) (g2:=g2) hsr hw0 hw1 hw2 h1 q0 q1 q2 n0 n1 d01 d02 d12
  exact ⟨ds,run _ (wd _ _ _ _ _ _ (zKl hl e1)),by rw [e2];rfl,by rw [e2];exact e3,e4⟩
 |false=>
  refine' ⟨[tl one o0 [(w0,st+1+0+0),(w1,st+1+2+0),(w2,st+1+4+0)],tl one o1 [(w0,st+1+0+1)],tl one o2 [(w0,g0)],tl one o1 [(w1,st+1+2+1)],tl one o2 [(w1,g1)],tl one o1 [(w2,st+1+4+1)],tl one o2 [(w2,g2)]],run _ (wd _ _ _ _ _ _ (zGk hl ?h)),?l,?g,?c⟩
  case h=>kernel_rfl
  case l=>rfl
  case g=>
   simp only [zUa,zUq]
   refine zn.t3 h1 q0 n0 hsr hw0 hw1 hw2 (by simp;try omega) (by simp;try omega) (by simp;try omega) ?_
   refine zn.t1 h1 q1 n1 hw0 (by simp;try omega) ?_
   refine zn.t1 h1 q2 n2 hw0 (by simp;try omega) ?_
   refine zn.t1 h1 q1 n1 hw1 (by simp;try omega) ?_
   refine zn.t1 h1 q2 n2 hw1 (by simp;try omega) ?_
   refine zn.t1 h1 q1 n1 hw2 (by simp;try omega) ?_
   refine zn.t1 h1 q2 n2 hw2 (by simp;try omega) ?_
   exact zn.nil
  case c=>
   intro e h
   simp only [qZ,zAY,zUa,zUq]
   have:=zIu (e:=e) (h:=h) (a:=one) d01 d02 d12
   omega
theorem zIw (c st g0 g1 g2 m:Int) (hm:m=2\/m=3\/m=4) :
  ∃ ds,zZ [.int c,.int st,.int m,.lst [.int g0,.int g1,.int g2]]=some (.lst ds)/\(ds.length:Int)=1+(1+mix c 9949 3)*(m-2+b2i (zCj c m))/\zn m (λn=>(st<n/\n<st+(ds.length:Int))\/n=g0\/n=g1\/n=g2) ds/\∀ e h,qZ e h ds<=3:=by
 have h1:=yd c 9949 (m:=3) (by decide)
 have h2:=ye c 9949 (m:=3) (by decide)
 have cs:mix c 9949 3=0\/mix c 9949 3=1\/mix c 9949 3=2:=by omega
 rcases hm with rfl|rfl|rfl<;>rcases cs with e|e|e<;>rw [e]
 ·exact zOn c st g0 g1 g2 e
 ·exact zOo c st g0 g1 g2 e
 ·exact zOp c st g0 g1 g2 e
 ·exact zOq c st g0 g1 g2 e
 ·exact zOr c st g0 g1 g2 e
 ·exact zOs c st g0 g1 g2 e
 ·exact zOt c st g0 g1 g2 e
 ·exact zOu c st g0 g1 g2 e
 ·exact zOv c st g0 g1 g2 e
def zBE (c m:Int):Int:=1+(1+mix c 9949 3)*(m-2+b2i (zCj c m))+b2i (decide (0<mix c 9931 3))
theorem zTq {c m:Int} (hm:m=2\/m=3\/m=4):zBB [.int c,.int m]=some (.int (zBE c m)):=by
 have h1:=yd c 9949 (m:=3) (by decide)
 have h2:=ye c 9949 (m:=3) (by decide)
 have h3 : -18446744073709551616<1+mix c 9949 3:=by omega
 have h4:1+mix c 9949 3<18446744073709551616:=by omega
 exists 0,zBB,zDh,zMd,qv,zBE,b2i,h3,h4,zWC,atI,ixN,ixO
theorem zTr (c here goal m:Int) (hm:m=2\/m=3\/m=4):∃ d,yK [.int c,.int here,.int m,.int goal]=some d/\zn m (λn=>n=here\/n=goal) [d]/\∀ e h,qZ e h [d]<=2:=by
 obtain ⟨W,w0,w1,hW,hsr,hw0,hw1,hs⟩:=zTp (c+1)
 have m0:0<m:=by omega
 have m1:0<m-1:=by omega
 have a0:=yd c 9871 m0
 have a1:=ye c 9871 m0
 have b0:=yd c 9859 m1
 have b1:=ye c 9859 m1
 generalize ho:mix c 9871 m=one at a0 a1
 generalize hr:mix c 9859 (m-1)=r at b0 b1
 have h1:0<=one/\one<m:=⟨a0,a1⟩
 have q0:0<=(one+1+r)%m/\(one+1+r)%m<m:=⟨zV9 _ (by omega),zV2 _ m0⟩
 have n0:one≠(one+1+r)%m:=by rcases hm with rfl|rfl|rfl<;>omega
 have cp:c%2=0\/c%2=1:=by omega
 by_cases e:mix c 9931 3=1
 ·refine' ⟨_,?h1,?g1,?c1⟩
  case h1=>
   exists 0,yK,yv,qv,m0,m1,hW,hs,ho,hr,e,zWP,zUz,atI,ixN,ixO
   rfl
  case g1=>exact zn.t1 h1 q0 n0 hw0 (by simp) zn.nil
  case c1=>intro e h;simp only [qZ,zMh,zUa,zUq];have:=zIt e h one ((one+1+r)%m);omega
 ·rcases cp with cp|cp
  ·refine' ⟨_,?h1,?g1,?c1⟩
   case h1=>
    exists 0,yK,yv,qv,m0,m1,hW,hs,ho,hr,zWP,zUz,cp,(zVJ.mpr e),atI,ixN,ixO
    rfl
   case g1=>exact zn.t2 h1 q0 n0 hsr hw0 hw1 (by simp) (by simp) zn.nil
   case c1=>intro e h;simp only [qZ,zMh,zUa,zUq];have:=zIt e h one ((one+1+r)%m);omega
  ·refine' ⟨_,?h1,?g1,?c1⟩
   case h1=>
    exists 0,yK,yv,qv,m0,m1,hW,hs,ho,hr,zWP,zUz,cp,(zVJ.mpr e),atI,ixN,ixO
    rfl
   case g1=>exact zn.t2 h1 q0 n0 hsr hw0 hw1 (by simp) (by simp) zn.nil
   case c1=>intro e h;simp only [qZ,zMh,zUa,zUq];have:=zIt e h one ((one+1+r)%m);omega
theorem at0 {α:Type} {a:α} {l:List α}:atI (a::l) 0=some a:=by simp [atI,ixN]
theorem at1 {α:Type} {a b:α} {l:List α}:atI (a::b::l) 1=some b:=by
 unfold atI ixN
 rw [zUp (by decide),zUp (by simp;omega)]
 rfl
theorem at2 {α:Type} {a b c:α} {l:List α}:atI (a::b::c::l) 2=some c:=by
 unfold atI ixN
 rw [zUp (by decide),zUp (by simp;omega)]
 rfl
theorem at3 {α:Type} {a b c d:α} {l:List α}:atI (a::b::c::d::l) 3=some d:=by
 unfold atI ixN
 rw [zUp (by decide),zUp (by simp;omega)]
 rfl
theorem zMl {α:Type} (l:List α) (x:α):atI (l ++ [x]) (-1)=some x:=by
 unfold atI ixN
 rw [zVD (by decide),zUp (by simp;omega)]
 have e:(-1+(((l ++ [x]).length:Nat):Int)).toNat=l.length:=by simp;omega
 rw [zUb,e]
 simp
theorem zE1 {α:Type} {xs:List α} {i:Nat} {x:α} (h:xs[i]?=some x):atI xs (i:Int)=some x:=by
 have hl:=(zUs.mp h).1
 unfold atI ixN
 rw [zUp (by omega),zUp (by omega),zUb]
 simpa using h
theorem zHw {n:Nat} (h:n<=1000000):RD.inR (n:Int)=true:=by
 simp [RD.inR];omega
theorem zAz {f:ROl} {g:D->Rho->Option Rho} {B:ROo} {ρ:Rho} {ds:List D} (h:f ρ=some ds):zf f g B ρ=zc g B ds ρ:=by simp only [zf,h,zUb]
theorem zF5 {f:ROl} {ρ:Rho} {n:Nat} (h:f ρ=some [.int (n:Int)]) (hn:n<=1000000):iR1 f ρ=some (rng 0 n):=by
 unfold iR1
 rw [h,zUb]
 exact (zUp (zHw hn)).trans (by rw [zWi])
theorem zBV {i:Nat} {f:ROd} {ρ:Rho} {d:D} (h:f ρ=some d):qD i f ρ=some (.nx (ρ.set i (.v d))):=by unfold qD;rw [h,zUx]
theorem zMm {f:ROd} {ρ:Rho} {d:D} (h:f ρ=some d):zAA f ρ=some (.rt d):=by unfold zAA;rw [h,zUx]
theorem ix30:ixN 3 0=some 0:=rfl
theorem zRj {S:List Int} {T x:Int} (hS:∀ x∈S,0<=x/\x<=T) (hl:1<=S.length):∃ g,atI (S.map D.int) (mix x 9907 (S.length:Int))=some (.int g)/\0<=g/\g<=T:=by
 have hn:(0:Int)<(S.length:Int):=by omega
 have a0:=yd x 9907 hn
 have a1:=ye x 9907 hn
 obtain ⟨i,hi⟩:∃ i:Nat,mix x 9907 (S.length:Int)=(i:Int):=⟨(mix x 9907 (S.length:Int)).toNat,by omega⟩
 rw [hi] at a1 ⊢
 have hlt:i<S.length:=by omega
 exact ⟨S[i],zE1 (by simp [hlt]),hS _ (zWF _)⟩
theorem zGl {c m:Int} {n:Nat} (hm:m=2\/m=3\/m=4) (h:(n:Int)=1+(1+mix c 9949 3)*(m-2+b2i (zCj c m))):1<=(n:Int)/\(n:Int)<=10/\zBE c m=(n:Int)+b2i (decide (0<mix c 9931 3)):=by
 have h1:=yd c 9949 (m:=3) (by decide)
 have h2:=ye c 9949 (m:=3) (by decide)
 refine ⟨?_,?_,by rw [h];rfl⟩
 all_goals
  rw [h]
  have cs:mix c 9949 3=0\/mix c 9949 3=1\/mix c 9949 3=2:=by omega
  have bs:b2i (zCj c m)=0\/b2i (zCj c m)=1:=by unfold b2i;split<;>simp
  rcases hm with rfl|rfl|rfl<;>rcases cs with e|e|e<;>rcases bs with e' | e'<;>rw [e,e']<;>decide
theorem zIx {c m:Int} (hm:m=2\/m=3\/m=4):1<=zBE c m/\zBE c m<=11:=by
 obtain ⟨ds,_,l,_,_⟩:=zIw c 0 0 0 0 m hm
 obtain ⟨a,b,e⟩:=zGl hm l
 have:b2i (decide (0<mix c 9931 3))=0\/b2i (decide (0<mix c 9931 3))=1:=by unfold b2i;split<;>simp
 omega
theorem zOw {m:Int} (hm:m=2\/m=3\/m=4) {S:List Int} {T:Int} (hS:∀ x∈S,0<=x/\x<=T) (hl:1<=S.length) {k:Nat} {a c:Int} (h1:S[k]?=some a) (h2:S[k+1]?=some (a+zBE c m)) {ds:List D} (hd:ds.length<=100) (s0 s2 s7 s8:Sl) :
  ∃ es s7' s8',qX [s0,.v (.int m),s2,.l (S.map D.int),.v (.int c),.l ds,.v (.int k),s7,s8]=some (.nx [s0,.v (.int m),s2,.l (S.map D.int),.v (.int c),.l (ds++es),.v (.int k),s7',s8']) /\
   (es.length:Int)=zBE c m/\zn m (λn=>0<=n/\n<T+1) es/\∀ e h,qZ e h es<=5:=by
 have hn:(0:Int)<(S.length:Int):=by omega
 have ha:=hS a (zU3 h1)
 have hb:=hS _ (zU3 h2)
 obtain ⟨g0,p0,u0⟩:=zRj (x:=c+0) hS hl
 obtain ⟨g1,p1,u1⟩:=zRj (x:=c+7) hS hl
 obtain ⟨g2,p2,u2⟩:=zRj (x:=c+14) hS hl
 have q1:atI (S.map D.int) (k:Int)=some (.int a):=zE1 (by simp [h1])
 have q2:atI (S.map D.int) ((k:Int)+1)=some (.int (a+zBE c m)):=zE1 (i:=k+1) (by simp [h2])
 by_cases t:0<mix c 9931 3
 ·obtain ⟨es,e1,l1,G1,C1⟩:=zIw c a (a+zBE c m-1) g1 g2 m hm
  obtain ⟨x,e2,G2,C2⟩:=zTr c (a+zBE c m-1) g0 m hm
  obtain ⟨y0,y1,y2⟩:=zGl hm l1
  rw [show b2i (decide (0<mix c 9931 3))=1 by simp [b2i,t]] at y2
  have z0:es.length<=10:=by omega
  have z1:ds.length+es.length<=1000000:=by omega
  have z2:ds.length+es.length<16000000:=by omega
  refine ⟨es ++ [x],.v (.lst [.int (a+zBE c m-1),.int g1,.int g2]),.v (.int g0),?_,by simp;omega,(G1.mono λn h=>by omega).app (G2.mono λn h=>by omega),λe h=>?_⟩
  ·exists 0,qX,qv,hn,p0,p1,p2,q1,q2,e1,e2,t,z1,z2,at0,ix30,r3,Int.add_assoc,zVZ,ixO
  ·rw [zEJ];have:=C1 e h;have:=C2 e h;omega
 ·obtain ⟨es,e1,l1,G1,C1⟩:=zIw c a g0 g1 g2 m hm
  obtain ⟨y0,y1,y2⟩:=zGl hm l1
  rw [show b2i (decide (0<mix c 9931 3))=0 by simp [b2i,t]] at y2
  have z0:es.length<=10:=by omega
  have z1:ds.length+es.length<=1000000:=by omega
  refine ⟨es,.v (.lst [.int g0,.int g1,.int g2]),.v (.int g0),?_,by omega,G1.mono λn h=>by omega,λe h=>by have:=C1 e h;omega⟩
  exists 0,qX,qv,hn,p0,p1,p2,q1,q2,e1,t,z1,at0,ix30,r3,Int.add_assoc,ixO
def sts (m a:Int):List Int->List Int
 | []=>[a]
 |c::cs=>a::sts m (a+zBE c m) cs
theorem zMn (m:Int):∀ (cs:List Int) (a:Int),(sts m a cs).length=cs.length+1
 | [],_=>rfl
 |c::cs,a=>by rw [sts,zUa,zMn m cs,zUa]
theorem zPw {m:Int} (hm:m=2\/m=3\/m=4):∀ (cs:List Int) (a x:Int),x∈sts m a cs->a<=x/\x<=a+11*(cs.length:Int)
 | [],a,x,h=>by simp [sts] at h;subst h;simp
 |c::cs,a,x,h=>by
  have sz:=zIx (c:=c) hm
  rcases zUg.mp h with rfl|h
  ·simp only [zUa];omega
  ·have:=zPw hm cs _ x h
   simp only [zUa];omega
def tot (m a:Int):List Int->Int
 | []=>a
 |c::cs=>tot m (a+zBE c m) cs
theorem zPx {m:Int} (hm:m=2\/m=3\/m=4):∀ (cs:List Int) (a:Int),a+cs.length<=tot m a cs/\tot m a cs<=a+11*(cs.length:Int)/\∀ x∈sts m a cs,x<=tot m a cs
 | [],a=>by simp [tot,sts]
 |c::cs,a=>by
  have sz:=zIx (c:=c) hm
  obtain ⟨i1,i2,i3⟩:=zPx hm cs (a+zBE c m)
  simp only [tot,sts,zUa]
  refine ⟨by omega,by omega,λx hx=>?_⟩
  rcases zUg.mp hx with rfl|hx
  ·omega
  ·exact i3 x hx
theorem zJr {m:Int} (hm:m=2\/m=3\/m=4):∀ (cs pre:List Int) (a:Int) (s0 s2 s4 s5 s6 s7 s8:Sl),pre.length+cs.length<=100->∃ s4',zc (gN 4) yy (cs.map D.int) [s0,.v (.int m),s2,.l ((pre ++ [a]).map D.int),s4,s5,s6,s7,s8]=some (.nx [s0,.v (.int m),s2,.l ((pre++sts m a cs).map D.int),s4',s5,s6,s7,s8])
 | [],pre,a,s0,s2,s4,s5,s6,s7,s8,_=>⟨s4,rfl⟩
 |c::cs,pre,a,s0,s2,s4,s5,s6,s7,s8,hl=>by
  rw [zUa] at hl
  obtain ⟨s4',ih⟩:=zJr hm cs (pre ++ [a]) (a+zBE c m) s0 s2 (.v (.int c)) s5 s6 s7 s8 (by simp;omega)
  refine ⟨s4',?_⟩
  have z:=zTq (c:=c) hm
  have la:=zMl (pre.map D.int) (D.int a)
  have z1:pre.length+1<16000000:=by omega
  have st:yy [s0,.v (.int m),s2,.l ((pre ++ [a]).map D.int),.v (.int c),s5,s6,s7,s8]=some (.nx [s0,.v (.int m),s2,.l ((pre ++ [a] ++ [a+zBE c m]).map D.int),.v (.int c),s5,s6,s7,s8]):=by
   exists 0,yy,zUw,la,z,z1,ixO
  have go:zc (gN 4) yy (D.int c::cs.map D.int) [s0,.v (.int m),s2,.l ((pre ++ [a]).map D.int),s4,s5,s6,s7,s8]=zc (gN 4) yy (cs.map D.int) [s0,.v (.int m),s2,.l ((pre ++ [a] ++ [a+zBE c m]).map D.int),.v (.int c),s5,s6,s7,s8]:=by
   rw [zc,show gN 4 (D.int c) [s0,.v (.int m),s2,.l ((pre ++ [a]).map D.int),s4,s5,s6,s7,s8]=some [s0,.v (.int m),s2,.l ((pre ++ [a]).map D.int),.v (.int c),s5,s6,s7,s8] from rfl,zUb,st]
   rfl
  rw [zUc,go,ih,sts,zVZ]
  rfl
theorem zPy {m:Int} (hm:m=2\/m=3\/m=4) {S:List Int} {T:Int} (hS:∀ x∈S,0<=x/\x<=T) (hl:1<=S.length):∀ (cs:List Int) (k:Nat) (a:Int) (ds:List D) (s0 s2 s4 s6 s7 s8:Sl),S.drop k=sts m a cs->(ds.length:Int)=a->ds.length+11*cs.length<=100->zn m (λn=>0<=n/\n<T+1) ds ->
  ∃ ds' s4' s6' s7' s8',zc (gT 2 (gCs (gN 6) (gCs (gN 4) gNl))) qX (zDZ k (cs.map D.int)) [s0,.v (.int m),s2,.l (S.map D.int),s4,.l ds,s6,s7,s8]=some (.nx [s0,.v (.int m),s2,.l (S.map D.int),s4',.l ds',s6',s7',s8']) /\
   (ds'.length:Int)=tot m a cs/\zn m (λn=>0<=n/\n<T+1) ds'/\∀ e h,qZ e h ds'<=qZ e h ds+5*cs.length
 | [],k,a,ds,s0,s2,s4,s6,s7,s8,_,hd,_,hG=>⟨ds,s4,s6,s7,s8,rfl,hd,hG,λ_ _=>zUn _⟩
 |c::cs,k,a,ds,s0,s2,s4,s6,s7,s8,hk,hd,hb,hG=>by
  have sz:=zIx (c:=c) hm
  rw [zUa] at hb
  have h1:S[k]?=some a:=by
   have:=zVX (λl=>l[0]?) hk
   simpa [sts] using this
  have h2:S[k+1]?=some (a+zBE c m):=by
   have:=zVX (λl=>l[1]?) hk
   simp only [List.getElem?_drop,sts,zVB] at this
   rw [this]
   cases cs<;>rfl
  have hk':S.drop (k+1)=sts m (a+zBE c m) cs:=by
   rw [<- List.drop_drop,hk];rfl
  obtain ⟨es,s7',s8',e1,e2,e3,e4⟩:=zOw hm hS hl h1 h2 (ds:=ds) (by omega) s0 s2 s7 s8
  obtain ⟨ds',t4,t6,t7,t8,i1,i2,i3,i4⟩:=zPy hm hS hl cs (k+1) (a+zBE c m) (ds++es) s0 s2 (.v (.int c)) (.v (.int k)) s7' s8' hk' (by simp;omega) (by simp;omega) (hG.app e3)
  refine ⟨ds',t4,t6,t7,t8,?_,i2,i3,λe h=>?_⟩
  ·rw [zUc,zDZ,zc,show gT 2 (gCs (gN 6) (gCs (gN 4) gNl)) (.tup [.int k,.int c]) [s0,.v (.int m),s2,.l (S.map D.int),s4,.l ds,s6,s7,s8]=some [s0,.v (.int m),s2,.l (S.map D.int),.v (.int c),.l ds,.v (.int k),s7,s8] from rfl,zUb,e1]
   exact i1
  ·have a1:=i4 e h
   have a2:=e4 e h
   rw [zEJ] at a1
   rw [zUa];omega
theorem zF6 {s1:Sl} (ns:List Int) (ρ:Rho) (hρ:ρ = [.v (.lst (ns.map D.int)),s1,.un,.un,.un,.un,.un,.un,.un,.un]):∀ (is:List Nat),zP (gN 9) (λ_=>some true) (λρ=>((zB (gV 0) (zB (b2 (zR 1) (gR 9) zV) zN)) ρ).bind zh) (is.map λ(i:Nat)=>D.int (0+(i:Int))) ρ=some ((is.map λi=>ns.getD (1+i) 0).map D.int)
 | []=>rfl
 |i::is=>by
  have ih:=zF6 ns ρ hρ is
  subst hρ
  have k:=zMc (ns:=ns) (k:=1+(0+(i:Int))) (by omega)
  rw [show (1+(0+(i:Int))).toNat=1+i by omega,zWq] at k
  rw [zUc,zP,ih]
  exists k,atI,ixN,ixO,eqO,eqD,eqL,gN,gT,gCs,gNl,zj,zc,neO,zV,isO
theorem zOx (ns:List Int):∃ m ds,(2<=m/\m<=4)/\qh [.lst (ns.map D.int)]=some (.tup [.int m,.tup (ds ++ [.tup [.str "end"]])])/\1<=ds.length/\ds.length<=39/\zn m (λn=>0<=n/\n<(ds.length:Int)+1) ds/\∀ e h,qZ e h ds<=15:=by
 have xa:=yd (ns.getD 0 0) 9973 (m:=3) (by decide)
 have xb:=ye (ns.getD 0 0) 9973 (m:=3) (by decide)
 have xc:=yd (ns.getD 0 0) 9967 (m:=3) (by decide)
 have xd:=ye (ns.getD 0 0) 9967 (m:=3) (by decide)
 have k0:zh [.lst (ns.map D.int),.int 0]=some (.int (ns.getD 0 0)):=zMc (by decide)
 have hm:2+mix (ns.getD 0 0) 9973 3=2\/2+mix (ns.getD 0 0) 9973 3=3\/2+mix (ns.getD 0 0) 9973 3=4:=by omega
 obtain ⟨r,hr⟩:∃ r:Nat,1+mix (ns.getD 0 0) 9967 3=(r:Int):=⟨(1+mix (ns.getD 0 0) 9967 3).toNat,by omega⟩
 have hr3:1<=r/\r<=3:=by omega
 generalize em:2+mix (ns.getD 0 0) 9973 3=m at hm
 have cl:=zF6 (s1:=.v (.int m)) ns _ rfl (List.range r)
 generalize hcs:((List.range r).map λi=>ns.getD (1+i) 0)=cs at cl
 have lc:cs.length=r:=by rw [<- hcs];simp
 obtain ⟨t1,t2,t3⟩:=zPx hm cs 0
 have ls:=zMn m cs 0
 have hS:∀ x∈sts m 0 cs,0<=x/\x<=tot m 0 cs:=λx hx=>⟨(zPw hm cs 0 x hx).1,t3 x hx⟩
 obtain ⟨s4,l1⟩:=zJr hm cs [] 0 (.v (.lst (ns.map D.int))) (.v (.lst (cs.map D.int))) .un .un .un .un .un (by simp;omega)
 obtain ⟨ds,u4,u6,u7,u8,l2,d1,d2,d3⟩:=zPy hm hS (by omega) cs 0 0 [] (.v (.lst (ns.map D.int))) (.v (.lst (cs.map D.int))) s4 .un .un .un rfl rfl (by simp;omega) zn.nil
 have hl:ds.length<=33:=by omega
 have z1:ds.length+1<=1000000:=by omega
 have z2:r<=1000000:=by omega
 refine ⟨m,ds,by omega,?_,by omega,by omega,d2.mono λn h=>by omega,λe h=>by have:=d3 e h;simp only [qZ] at this;omega⟩
 rw [zVh,zVh,zUc,zVq] at l1
 have rl:(rng 0 r).length<=1000000:=by simp [rng];omega
 show (zBU [.v (.lst (ns.map D.int)),.un,.un,.un,.un,.un,.un,.un,.un]).bind _=_
 unfold zBU
 rw [zt (ρ':=[.v (.lst (ns.map D.int)),.v (.int m),.un,.un,.un,.un,.un,.un,.un]) ?g1,zt (ρ':=[.v (.lst (ns.map D.int)),.v (.int m),.v (.lst (cs.map D.int)),.un,.un,.un,.un,.un,.un]) ?g2,zt (ρ':=[.v (.lst (ns.map D.int)),.v (.int m),.v (.lst (cs.map D.int)),.l [.int 0],.un,.un,.un,.un,.un]) rfl,zt ((zAz (ds:=cs.map D.int) rfl).trans l1),zt (ρ':=[.v (.lst (ns.map D.int)),.v (.int m),.v (.lst (cs.map D.int)),.l ((sts m 0 cs).map D.int),s4,.l [],.un,.un,.un]) rfl,zt ((zAz (ds:=zDZ 0 (cs.map D.int)) rfl).trans l2),zMm (d:=.tup [.int m,.tup (ds ++ [.tup [.str "end"]])]) ?g3]
 ·rfl
 case g1=>
  refine (zBV (d:=.int m) ?_).trans rfl
  exists 0,k0,qv,em,atI,ixN,ixO
 case g2=>
  refine (zBV (d:=.lst (cs.map D.int)) ?_).trans rfl
  have ci:iR1 (zB (b2 (zR 1) (λρ=>((zB (λρ=>((zB (gV 0) (zB (zR 0) zN)) ρ).bind zh) (zB (zR 9967) (zB (zR 3) zN))) ρ).bind zS) zV) zN) [.v (.lst (ns.map D.int)),.v (.int m),.un,.un,.un,.un,.un,.un,.un]=some (rng 0 r):=by
   refine zF5 ?_ z2
   rw [<- hr]
   exists 0,k0,qv,atI,ixN,ixO
  unfold zJ
  rw [ci,zUb,zUp rl]
  exact zVX (Option.map D.lst) cl
 case g3=>
  exists 0,z1,atI,ixN,ixO
abbrev zB1:List Str:=["place"]
def zAl:ROo:=(sq (sIf (bB (b2 (b2 (gR 0) (zR 0) ixO) (λ_=>some (D.str "end")) eqO)) (zAA (λρ=>(zN ρ).map D.tup)) (λρ=>some (Out.nx ρ))) (zAA (b2 (gR 0) (zR 3) ixO)))
def yg (ds:List D):Option D:=zDW zB1 zAl ds
theorem zGm {g:D->Rho->Option Rho} {F:ROo} (I:Rho->Prop):∀ {ds:List D} {ρ:Rho},(∀ d∈ds,∀ ρ,I ρ->∃ ρ',(g d ρ).bind F=some (.nx ρ')/\I ρ')->I ρ->∃ ρ',zc g F ds ρ=some (.nx ρ')/\I ρ'
 | [],ρ,_,h=>⟨ρ,rfl,h⟩
 |d::ds,ρ,k,h=>by
  obtain ⟨ρ1,e1,h1⟩:=k d zUd ρ h
  obtain ⟨ρ2,e2,h2⟩:=zGm I (ds:=ds) (ρ:=ρ1) (λd' hd=>k d' (zUY _ hd)) h1
  refine ⟨ρ2,?_,h2⟩
  obtain ⟨ρ3,e3,e4⟩:=zUX.mp e1
  simp only [zc,e3,zUb,e4,e2]
theorem zDk {g:D->Rho->Option Rho} {F:ROo} {d:D} {ds:List D} {ρ ρ1 ρ':Rho} (h:g d ρ=some ρ1) (k:F ρ1=some (.nx ρ')):zc g F (d::ds) ρ=zc g F ds ρ':=by simp only [zc,h,k,zUb]
structure qL (m:Int) (ps:List Pl):Prop where
 m0:2<=m
 m1:m<=4
 n0:1<=ps.length
 n1:ps.length<=40
 ok:∀ p∈ps,okP m (λn=>0<=n/\n<(ps.length:Int)) p
def dnD (m:Int) (ps:List Pl):D:=.tup [.int m,.tup (ps.map plD)]
theorem zOy (ns:List Int):∃ m ps,qh [.lst (ns.map D.int)]=some (dnD m ps)/\qL m ps/\(∃ rows,ps=rows ++ [.fin]/\1<=rows.length/\∀ p∈rows,p≠.fin)/\∀ e h,qZ e h (ps.map plD)<=15:=by
 obtain ⟨m,ds,hm,e,h1,h2,⟨ps,rfl,h3⟩,h4⟩:=zOx ns
 rw [zUi] at h1 h2 h3
 refine ⟨m,ps ++ [.fin],by rw [e];simp [dnD,plD],⟨hm.1,hm.2,by simp,by simp;omega,λp hp=>?_⟩,⟨ps,rfl,h1,λp hp=>(h3 p hp).2⟩,λe h=>by rw [zUw,zEJ];simpa [qZ,plD,zMh] using h4 e h⟩
 rw [zUr,zVE]
 rcases zUj.mp hp with hp|hp
 ·exact (h3 p hp).1
 ·simp at hp;subst hp;trivial
def chs:Pl->List (Str×Int)
 |.fin=>[]
 |.tell _ _ ch=>ch
theorem zIy:((Str.ofString "tell" : Str) == Str.ofString "end")=false:=by decide +kernel
theorem zHx (p:Pl):yg [plD p]=some (.tup ((chs p).map chD)):=by
 cases p with
 |fin=>exists 0,yg,zAl,plD,at0,chs,zUz,ixO
 |tell a b ch=>exists 0,yg,zAl,plD,at0,at3,chs,zIy,ixO
theorem zRk {ps:List Pl} {n:Int} (h0:0<=n) (h1:n<(ps.length:Int)):∃ p,p∈ps/\ps[n.toNat]?=some p/\atI (ps.map plD) n=some (plD p):=by
 have h2:n.toNat<ps.length:=by omega
 refine ⟨ps[n.toNat],zWF _,by simp [h2],?_⟩
 simp [atI,ixN,h0,h1,h2]
theorem okP.next {m:Int} {P:Int->Prop} {p:Pl} (h:okP m P p) {q:Str×Int} (hq:q∈chs p):P q.2:=by
 cases p with
 |fin=>simp [chs] at hq
 |tell a b ch=>exact h.nx q hq
theorem okP.few {m:Int} {P:Int->Prop} {p:Pl} (h:okP m P p):(chs p).length<=3:=by
 cases p with
 |fin=>simp [chs]
 |tell a b ch=>exact h.l1
theorem z9 {α:Type} {g:D->Rho->Option Rho} {p:ROb} {f:ROd} {emb:α->D} {ρ:Rho} (test:α->Bool) (out:α->D) :
  ∀ (xs:List α),(∀ x∈xs,∃ ρ1,g (emb x) ρ=some ρ1/\p ρ1=some (test x)/\(test x=true->f ρ1=some (out x)))->zP g p f (xs.map emb) ρ=some ((xs.filter test).map out)
 | [],_=>rfl
 |x::xs,h=>by
  have ih:=z9 test out xs λy hy=>h y (zUY _ hy)
  obtain ⟨ρ1,e1,e2,e3⟩:=h x zUd
  rw [zUc,List.filter_cons]
  show (g (emb x) ρ).bind _=_
  rw [e1,zUb,e2,zUb]
  cases t:test x with
  |true=>rw [zUp rfl,e3 t,zUb,ih,zUp rfl];rfl
  |false=>rw [zVD zU7,ih,zVD zU7]
theorem zMo {α:Type} (f:α->D) (xs:List α) (lo hi:Option Int):∃ ys:List α,zj (xs.map f) lo hi=ys.map f/\ys.length<=xs.length/\∀ y∈ys,y∈xs:=by
 refine ⟨(xs.drop (HT.sIx (xs.map f).length 0 lo)).take (HT.sIx (xs.map f).length (xs.map f).length hi-HT.sIx (xs.map f).length 0 lo),?_,?_,λy hy=>List.mem_of_mem_drop (List.mem_of_mem_take hy)⟩
 ·unfold zj;simp only [List.map_take,List.map_drop]
 ·simp [zWy,zWx];omega
theorem zTs (p:Pl):eqD (plD p) (.tup [.str "end"])=(match p with | .fin=>true|_=>false):=by
 cases p with
 |fin=>simp [plD,eqD,eqL]
 |tell a b ch=>simp [plD,eqD,eqL]
abbrev zB2:List Str:=["place","dancer"]
def zAm:ROo:=(zAA (zN1 (b2 (b2 (gR 0) (zR 0) ixO) (λ_=>some (D.str "tell")) eqO) (b2 (gV 1) (λρ=>((zB (b2 (gR 0) (zR 1) ixO) (zB (b2 (gR 0) (zR 2) ixO) zN)) ρ).map D.tup) inO)))
def yh (ds:List D):Option D:=zDW zB2 zAm ds
def zB3:ROb:=(bB (b2 (b1 (gR 5) zEF) (zR 0) gtO))
def zAZ:ROo:=(sq (zTU 6 5) (sq (sIf (dIn false 4 (gV 6)) (λρ=>some (Out.ct ρ)) (λρ=>some (Out.nx ρ))) (sq (zOE 4 (gV 6) (λ_=>some (D.bl true))) (sIf (zQp (zK9 (λρ=>((zB (b2 (gR 3) (gR 6) ixO) (zB (gV 1) zN)) ρ).bind yh))) (zTW 5 (zJ 1 (iT (λρ=>((zB (b2 (gR 3) (gR 6) ixO) zN) ρ).bind yg)) (gN 7) (λ_=>some true) (b2 (gR 7) (zR 1) ixO))) (λρ=>some (Out.nx ρ))))))
abbrev zIz:List Str:=["dance","dancer","some","places","come_to","waiting","number"]
def zI0:ROo:=(sq (qD 3 (b2 (gR 0) (zR 1) ixO)) (sq (zOD 4) (sq (zAT 5 (b1F (gR 2) zPn)) (sq (zPo 300 zB3 zAZ) (zAA (b1 (λρ=>((zQ6 4) ρ).map D.lst) zHb))))))
def qY (ds:List D):Option D:=zDW zIz zI0 ds
def zA0:ROo:=(zAA (λρ=>((zB (gV 2) (zB (b2 (b2 (b3S (gR 3) (λ_=>some none) (oI (gV 4)) slD) (λρ=>((zB (gV 5) zN) ρ).map D.tup) zV) (b3S (gR 3) (oI (b2 (gR 4) (zR 1) zV)) (λ_=>some none) slD) zV) zN)) ρ).map D.tup))
def zFZ:ROo:=(sq (sIf (bB (b2 (gR 6) (zR 4) eqO)) (qD 5 (λρ=>((zB (λ_=>some (D.str "end")) zN) ρ).map D.tup)) (λρ=>some (Out.nx ρ))) zA0)
def zCR:ROo:=(sq (sIf (bB (b2 (gR 6) (zR 3) eqO)) (qD 5 (b2 (b3S (gR 5) (λ_=>some none) (oI (zR 3)) slD) (λρ=>((zB (b3S (b2 (gR 5) (zR 3) ixO) (oI (b1 (zR 1) zPm)) (λ_=>some none) slD) zN) ρ).map D.tup) zV)) (λρ=>some (Out.nx ρ))) zFZ)
def zCS:ROo:=(sq (sIf (bB (b2 (gR 6) (zR 2) eqO)) (qD 5 (b2 (b3S (gR 5) (λ_=>some none) (oI (zR 3)) slD) (λρ=>((zB (b2 (b3S (b2 (gR 5) (zR 3) ixO) (λ_=>some none) (oI (b1 (zR 1) zPm)) slD) (λρ=>((zB (λρ=>((zB (b2 (b3S (gR 7) (λ_=>some none) (oI (zR 2)) slD) (λ_=>some (D.str "z")) zV) (zB (gV 8) zN)) ρ).map D.tup) zN) ρ).map D.tup) zV) zN) ρ).map D.tup) zV)) (λρ=>some (Out.nx ρ))) zCR)
def zFa:ROo:=(sq (sIf (bB (b2 (gR 6) (zR 1) eqO)) (qD 5 (λρ=>((zB (λ_=>some (D.str "tell")) (zB (b2 (gR 5) (zR 2) ixO) (zB (b2 (gR 5) (zR 1) ixO) (zB (b2 (gR 5) (zR 3) ixO) zN)))) ρ).map D.tup)) (λρ=>some (Out.nx ρ))) zCS)
def qk:ROo:=(sq (sIf (bB (b2 (gR 6) (zR 0) eqO)) (qD 5 (b2 (b3S (gR 5) (λ_=>some none) (oI (zR 3)) slD) (λρ=>((zB (b2 (b3S (b2 (gR 5) (zR 3) ixO) (λ_=>some none) (oI (b1 (zR 1) zPm)) slD) (λρ=>((zB (λρ=>((zB (gV 7) (zB (λρ=>((zB (gV 1) (zB (zR 9833) (zB (b1 (gR 3) zEF) zN))) ρ).bind zS) zN)) ρ).map D.tup) zN) ρ).map D.tup) zV) zN) ρ).map D.tup) zV)) (λρ=>some (Out.nx ρ))) zFa)
def ql:ROo:=(sq (qD 6 (λρ=>((zB (gV 1) (zB (zR 9839) (zB (zR 5) zN))) ρ).bind zS)) (sq (zSQ (b2 (b2 (gR 5) (zR 3) ixO) (b1 (zR 1) zPm) ixO) (gT 2 (gCs (gN 7) (gCs (gN 8) gNl)))) qk))
abbrev zB4:List Str:=["_law_dance_here","_law_cell_here","_law_many","_law_places","_law_at","_law_place","_law_kind","_law_word_here","_law_after"]
def zAn:ROo:=(sq (zSQ (gV 0) (gT 2 (gCs (gN 2) (gCs (gN 3) gNl)))) (sq (qD 4 (λρ=>((zB (gV 1) (zB (zR 9857) (zB (b1 (gR 3) zEF) zN))) ρ).bind zS)) (sq (qD 5 (b2 (gR 3) (gR 4) ixO)) (sq (sIf (bB (b2 (gR 5) (λρ=>((zB (λ_=>some (D.str "end")) zN) ρ).map D.tup) eqO)) (qD 5 (λρ=>((zB (λ_=>some (D.str "tell")) (zB (b2 (gR 1) (gR 2) zGV) (zB (b2 (b2 (gR 1) (zR 1) zV) (gR 2) zGV) (zB (λρ=>((zB (λρ=>((zB (λ_=>some (D.str "z")) (zB (λρ=>((zB (gV 1) (zB (zR 9851) (zB (b1 (gR 3) zEF) zN))) ρ).bind zS) zN)) ρ).map D.tup) zN) ρ).map D.tup) zN)))) ρ).map D.tup)) (λρ=>some (Out.nx ρ))) ql))))
def yi (ds:List D):Option D:=zDW zB4 zAn ds
theorem zOz (l:List D) (x:D):zj (l ++ [x]) none (some (-1))=l:=by
 have e:(-1+((l.length:Int)+1)).toNat=l.length:=by omega
 simp [zj,HT.sIx,e]
theorem zO0 (l:List D) (x:D):zj (l ++ [x]) (some (-1)) none = [x]:=by
 have e:(-1+((l.length:Int)+1)).toNat=l.length:=by omega
 simp [zj,HT.sIx,e]
theorem zO1 (l:List D) (k:Nat) (h:k<=l.length):zj l none (some (k:Int))=l.take k:=by
 have:¬ ((k:Int)<0):=by omega
 simp [zj,HT.sIx,this,Nat.min_eq_left h]
theorem zO2 (l:List D) (k:Nat) (h:k<=l.length):zj l (some (k:Int)) none=l.drop k:=by
 have:¬ ((k:Int)<0):=by omega
 simp only [zj,HT.sIx,this,zVg,zWi,Nat.min_eq_left h]
 rw [List.take_of_length_le (by simp)]
theorem zMp {α:Type} {l:List α} (h:1<=l.length):∃ ini x,l=ini ++ [x]:=by
 have hn:l≠[]:=by intro e;subst e;simp at h
 exact ⟨l.dropLast,l.getLast hn,(List.dropLast_concat_getLast hn).symm⟩
theorem zTt (w:Str):Txt.slice w none (some 2)=⟨(w.cps.toList.take 2).toArray⟩:=by
 obtain ⟨⟨l⟩⟩:=w
 match l with
 | []=>rfl
 |[a]=>
  have e:Builtin.Str.strSliceIndices none (some 2) 1 1 = [0]:=by decide +kernel
  simp [Txt.slice,Str.length,e]
 |a::b::l=>exact zF4 (a::b::l) 2 (by simp)
def wz (w:Str):Str:=⟨(w.cps.toList.take 2 ++ [122]).toArray⟩
theorem z_str:(Str.ofString "z")=⟨[122].toArray⟩:=by decide +kernel
theorem wz_ok {w:Str} (h:okW w):okW (wz w):=by
 obtain ⟨h1,h2,h3⟩:=h
 obtain ⟨⟨l⟩⟩:=w
 simp only [Str.length,zUh] at h1 h2
 simp only at h3
 refine ⟨by simp [wz,Str.length],by simp [wz,Str.length];omega,λx hx=>?_⟩
 simp [wz] at hx
 rcases hx with hx|rfl
 ·exact h3 x (List.mem_of_mem_take hx)
 ·decide
theorem okz:okW (Str.ofString "z"):=by
 rw [z_str]
 exact ⟨by decide,by decide,λx hx=>by simp at hx;subst hx;decide⟩
theorem wz_ge {w v:Str} (h:okW w) (k:Lt v w):Lt v (wz w):=by
 obtain ⟨h1,h2,h3⟩:=h
 obtain ⟨⟨l⟩⟩:=w
 simp only [Str.length,zUh] at h1 h2
 simp only at h3
 by_cases e:(⟨⟨l⟩⟩:Str)=wz ⟨⟨l⟩⟩
 ·rw [<- e];exact k
 ·refine k.trans (Lt.total ?_ e)
  rw [Lt.def]
  match l with
  | []=>simp at h1
  | [a]=>simp [wz]
  | [a,b]=>simp [wz]
  |[a,b,c]=>
   have hc:=(h3 c (by simp)).2
   simp only [wz,List.take_succ_cons,List.take_zero,zVd,zVh]
   intro q
   simp only [List.cons_lt_cons_iff,zVp,false_or,true_and] at q
   rcases q with q|q
   ·omega
   ·exact absurd q.2 (List.lt_irrefl _)
  |a::b::c::d::l=>simp at h2
theorem qL.set {m:Int} {ps:List Pl} (h:qL m ps) (k:Nat) (p:Pl) (hp:okP m (λn=>0<=n/\n<(ps.length:Int)) p):qL m (ps.set k p):=by
 refine ⟨h.m0,h.m1,by simpa using h.n0,by simpa using h.n1,λq hq=>?_⟩
 rw [List.length_set]
 rcases List.mem_or_eq_of_mem_set hq with hq|rfl
 ·exact h.ok q hq
 ·exact hp
theorem zTu (ps:List Pl) (k:Nat) (p:Pl) (h:k<ps.length):(ps.map plD).take k++([plD p]++(ps.map plD).drop (k+1))=(ps.set k p).map plD:=by
 rw [List.set_eq_take_append_cons_drop,zUp h]
 simp
theorem zI1 {l:List Str} {w w':Str} (h:yf (l ++ [w])) (k:∀ v,Lt v w->Lt v w'):yf (l ++ [w']):=by
 rw [yf,List.pairwise_append] at h ⊢
 refine ⟨h.1,by simp,λa ha b hb=>?_⟩
 simp at hb
 subst hb
 exact k a (h.2.2 a ha w (by simp))
theorem zKm {A B:ROd} {op:D->D->Option D} {ρ:Rho} {a b:D} {r:Option D} (h1:A ρ=some a) (h2:B ρ=some b) (h:op a b=r):b2 A B op ρ=r:=by
 rw [<- h];simp only [b2,h1,h2,zUb]
theorem zRl {c:ROb} {F F':ROo} {ρ:Rho} {r:Option Out} (h:c ρ=some true) (k:F ρ=r):sIf c F F' ρ=r:=by
 rw [<- k];simp only [sIf,h,zUb,zVU]
theorem zRm {l r:List D} (h:l.length+r.length<=1000000):zV (.tup l) (.tup r)=some (.tup (l++r)):=zUp h
theorem add_s {l r:Str} (h:l.length+r.length<=1000000):zV (.str l) (.str r)=some (.str (l++r)):=zUp h
theorem zTv {A:ROd} {ρ:Rho} {a:D} (h:A ρ=some a):((zB A zN) ρ).map D.tup=some (.tup [a]):=by simp only [zB,h,zUb,zUx]
theorem zRn {A B:ROd} {ρ:Rho} {a b:D} (h:A ρ=some a) (k:B ρ=some b):((zB A (zB B zN)) ρ).map D.tup=some (.tup [a,b]):=by simp only [zB,h,k,zUb,zUx]
theorem zTw {f:ROd} {g:D->Rho->Option Rho} {ρ ρ':Rho} {d:D} (h:f ρ=some d) (k:g d ρ=some ρ'):zSQ f g ρ=some (.nx ρ'):=by simp only [zSQ,h,k,zUb,zUx]
theorem zTx {m:Int} {ps:List Pl} (h:qL m ps) {at':Nat} (hat:at' < ps.length) (p:Pl) {d:D} (hd:plD p=d) {s0 s1 s6 s7 s8:Sl} :
  zA0 [s0,s1,.v (.int m),.v (.tup (ps.map plD)),.v (.int at'),.v d,s6,s7,s8]=some (.rt (dnD m (ps.set at' p))):=by
 subst hd
 have hps:=h.n1
 have l1:((ps.map plD).take at').length<=40:=by simp;omega
 have l2:((ps.map plD).drop (at'+1)).length<=40:=by simp;omega
 have e:=zRn (ρ:=[s0,s1,.v (.int m),.v (.tup (ps.map plD)),.v (.int at'),.v (plD p),s6,s7,s8]) (A:=λρ=>zNd ρ 2) (a:=.int m) rfl (zKm (op:=zV) (zKm (op:=zV) (A:=b3S (gR 3) (λ_=>some none) (oI (gV 4)) slD) (B:=λρ=>((zB (gV 5) zN) ρ).map D.tup)
  (Eq.trans (by kernel_rfl) (zVX (λz=>some (D.tup z)) (zO1 (ps.map plD) at' (by simp;omega)))) rfl (zRm (r:=[plD p]) (by simp only [zVE];omega)))
  (B:=b3S (gR 3) (oI (b2 (gR 4) (zR 1) zV)) (λ_=>some none) slD) (Eq.trans (by kernel_rfl) (zVX (λz=>some (D.tup z)) (zO2 (ps.map plD) (at'+1) (by simp;omega)))) (zRm (by simp only [zUr,zVE];omega)))
 rw [zVZ,zTu ps at' p hat] at e
 exact zVX (Option.map Out.rt) e
theorem zMq {E:ROd} {e k a b x:D} {s0 s1 s2 s3 s4 s6 s7 s8:Sl} (hE:E [s0,s1,s2,s3,s4,.v (.tup [k,a,b,x]),s6,s7,s8]=some e) :
  qD 5 (b2 (b3S (gR 5) (λ_=>some none) (oI (λ_=>some (.int 3))) slD) (λρ=>((zB E zN) ρ).map .tup) zV) [s0,s1,s2,s3,s4,.v (.tup [k,a,b,x]),s6,s7,s8]=some (.nx [s0,s1,s2,s3,s4,.v (.tup [k,a,b,e]),s6,s7,s8]):=
 zBV (zKm (a:=.tup [k,a,b]) (by kernel_rfl) (zTv hE) (by kernel_rfl))
theorem zPz {k a b x y:D} {l:List D} {B:ROd} {s0 s1 s2 s3 s4 s6 s7 s8:Sl} (hl:l.length<=3) (h:B [s0,s1,s2,s3,s4,.v (.tup [k,a,b,.tup (l ++ [x])]),s6,s7,s8]=some y) :
  b2 (b3S (b2 (gR 5) (zR 3) ixO) (λ_=>some none) (oI (b1 (zR 1) zPm)) slD) (λρ=>((zB B zN) ρ).map D.tup) zV [s0,s1,s2,s3,s4,.v (.tup [k,a,b,.tup (l ++ [x])]),s6,s7,s8]=some (.tup (l ++ [y])):=
 zKm (a:=.tup l) (Eq.trans (by kernel_rfl) (zVX (λz=>some (D.tup z)) (zOz l x))) (zTv h) (zRm (by simp only [zVE];omega))
theorem sk2 (s0 s1 s2 s3 s4 s5 s7 s8:Sl):qk [s0,s1,s2,s3,s4,s5,.v (.int 2),s7,s8]=zCS [s0,s1,s2,s3,s4,s5,.v (.int 2),s7,s8]:=by kernel_rfl
theorem sk3 (s0 s1 s2 s3 s4 s5 s7 s8:Sl):qk [s0,s1,s2,s3,s4,s5,.v (.int 3),s7,s8]=zCR [s0,s1,s2,s3,s4,s5,.v (.int 3),s7,s8]:=by kernel_rfl
theorem zMr {m c:Int} {ps:List Pl} (h:qL m ps) {a b x:Int} {ini:List (Str×Int)} {w:Str} (k:okT m (λn=>0<=n/\n<(ps.length:Int)) a b (ini ++ [(w,x)])) (at':Nat) (hat:at' < ps.length) :
  ∃ p,okP m (λn=>0<=n/\n<(ps.length:Int)) p/\ql [.v (dnD m ps),.v (.int c),.v (.int m),.v (.tup (ps.map plD)),.v (.int at'),.v (plD (.tell a b (ini ++ [(w,x)]))),.un,.un,.un]=some (.rt (dnD m (ps.set at' p))):=by
 have hn:(0:Int)<(ps.length:Int):=by omega
 have y1:0<=mix c 9833 (ps.length:Int)/\mix c 9833 (ps.length:Int)<(ps.length:Int):=⟨yd _ _ hn,ye _ _ hn⟩
 have hw:okW w:=k.wd (w,x) (by simp)
 have ki:∀ q∈ini,q∈ini ++ [(w,x)]:=λq hq=>zVV _ hq
 have l1:=k.l1
 have rs:=k.rs
 simp only [zUr,zVE,zUw,zUc,zVq] at l1 rs
 have li:(ini.map chD).length<=3:=by simp;omega
 have hl:w.length<=1000000:=by have:=hw.2.1;omega
 have l2:(w.cps.toList.take 2).length<=2:=List.length_take_le 2 _
 have e3:∀ y,(ini ++ [y]).map chD=ini.map chD ++ [chD y]:=λy=>by simp
 have hp:∀ y,plD (.tell a b (ini ++ [y])) = .tup [.str "tell",.int a,.int b,.tup (ini.map chD ++ [chD y])]:=λy=>by rw [<- e3];rfl
 have st:ql [.v (dnD m ps),.v (.int c),.v (.int m),.v (.tup (ps.map plD)),.v (.int at'),.v (plD (.tell a b (ini ++ [(w,x)]))),.un,.un,.un]=qk [.v (dnD m ps),.v (.int c),.v (.int m),.v (.tup (ps.map plD)),.v (.int at'),.v (.tup [.str "tell",.int a,.int b,.tup (ini.map chD ++ [.tup [.str w,.int x]])]),.v (.int (mix c 9839 5)),.v (.str w),.v (.int x)]:=by
  rw [hp]
  refine (zt (ρ':=[.v (dnD m ps),.v (.int c),.v (.int m),.v (.tup (ps.map plD)),.v (.int at'),.v (.tup [.str "tell",.int a,.int b,.tup (ini.map chD ++ [chD (w,x)])]),.v (.int (mix c 9839 5)),.un,.un]) (zBV (qv (by decide) (by decide)))).trans (zt ?_)
  exact zTw (zKm (a:=.tup (ini.map chD ++ [chD (w,x)])) (b:=.int (-1)) (by kernel_rfl) rfl (zMl _ _)) rfl
 rw [st]
 have rt:∀ (i:Int) (p:Pl) {d:D},plD p=d->zA0 [.v (dnD m ps),.v (.int c),.v (.int m),.v (.tup (ps.map plD)),.v (.int at'),.v d,.v (.int i),.v (.str w),.v (.int x)]=some (.rt (dnD m (ps.set at' p))):=λi p d hd=>zTx h hat p hd
 have e0:=yd c 9839 (m:=5) (by decide)
 have e1:=ye c 9839 (m:=5) (by decide)
 have cs:mix c 9839 5=0\/mix c 9839 5=1\/mix c 9839 5=2\/mix c 9839 5=3\/mix c 9839 5=4:=by omega
 have li':1<=ini.length+1:=by omega
 rcases cs with e|e|e|e|e<;>rw [e]
 ·have hm:zS [.int c,.int 9833,.int ((ps.map plD).length:Int)]=some (.int (mix c 9833 ps.length)):=by rw [zUi];exact qv (by decide) hn
  refine ⟨.tell a b (ini ++ [(w,mix c 9833 (ps.length:Int))]),⟨k.a0,k.a1,k.b0,k.b1,k.ne,by simp,by simpa using l1,by simpa using rs,λq hq=>?_,λq hq=>?_⟩,
   (zt (zRl (by kernel_rfl) (zMq (zPz li (zRn (a:=.str w) rfl (Eq.trans (by kernel_rfl) hm)))))).trans (Eq.trans (by kernel_rfl) (rt 0 _ (hp _)))⟩
  ·rcases zUj.mp hq with hq|hq
   ·exact k.wd q (ki q hq)
   ·cases zUf.mp hq;exact hw
  ·rcases zUj.mp hq with hq|hq
   ·exact k.nx q (ki q hq)
   ·cases zUf.mp hq;exact y1
 ·exact ⟨.tell b a (ini ++ [(w,x)]),⟨k.b0,k.b1,k.a0,k.a1,λe=>k.ne e.symm,k.l0,k.l1,k.rs,k.wd,k.nx⟩,Eq.trans (by kernel_rfl) (rt 1 _ (zVX (λl=>D.tup [.str "tell",.int b,.int a,.tup l]) (e3 (w,x))))⟩
 ·refine ⟨.tell a b (ini ++ [(wz w,x)]),⟨k.a0,k.a1,k.b0,k.b1,k.ne,by simp,by simpa using l1,by simpa using zI1 rs (λv hv=>wz_ge hw hv),λq hq=>?_,λq hq=>?_⟩,
   (sk2 ..).trans ((zt (zRl (by kernel_rfl) (zMq (zPz li (zRn (a:=.str (wz w)) ?_ rfl))))).trans (Eq.trans (by kernel_rfl) (rt 2 _ (hp _))))⟩
  ·rcases zUj.mp hq with hq|hq
   ·exact k.wd q (ki q hq)
   ·cases zUf.mp hq;exact wz_ok hw
  ·rcases zUj.mp hq with hq|hq
   ·exact k.nx q (ki q hq)
   ·cases zUf.mp hq;exact k.nx (w,x) (by simp)
  ·exact zKm (a:=.str (Txt.slice w none (some 2))) (b:=.str (Str.ofString "z")) (zUp hl) rfl (by
    rw [zTt,z_str]
    exact (add_s (by rw [zIq,zIq];exact zVF (Nat.add_le_add_right l2 1) (by decide))).trans (by rw [zMe];rfl))
 ·exact ⟨.tell a b [(w,x)],⟨k.a0,k.a1,k.b0,k.b1,k.ne,by simp,by simp,by simp,λq hq=>k.wd q (by simp at hq;simp [hq]),λq hq=>k.nx q (by simp at hq;simp [hq])⟩,
   (sk3 ..).trans ((zt (zRl (by kernel_rfl) (zMq (Eq.trans (by kernel_rfl) (zVX (λz=>some (D.tup z)) (zO0 (ini.map chD) (.tup [.str w,.int x]))))))).trans (Eq.trans (by kernel_rfl) (rt 3 _ rfl)))⟩
 ·exact ⟨.fin,trivial,Eq.trans (by kernel_rfl) (rt 4 .fin rfl)⟩
theorem zMs {m:Int} {ps:List Pl} (h:qL m ps) (c:Int):∃ ps',qL m ps'/\ps'.length=ps.length/\(∃ k p,ps'=ps.set k p/\(chs p).length<=3)/\yi [dnD m ps,.int c]=some (dnD m ps'):=by
 have hn:(0:Int)<(ps.length:Int):=by have:=h.n0;omega
 have a0:=yd c 9857 hn
 have a1:=ye c 9857 hn
 obtain ⟨at',hat⟩:∃ at':Nat,mix c 9857 (ps.length:Int)=(at':Int):=⟨(mix c 9857 (ps.length:Int)).toNat,by omega⟩
 rw [hat] at a0 a1
 have hl:at' < ps.length:=by omega
 obtain ⟨p,hp,e1,e2⟩:=zRk a0 a1
 have ok:=h.ok p hp
 have m0:0<m:=by have:=h.m0;omega
 have fin:∀ a b ch,okT m (λn=>0<=n/\n<(ps.length:Int)) a b ch->∃ p,okP m (λn=>0<=n/\n<(ps.length:Int)) p/\ql [.v (dnD m ps),.v (.int c),.v (.int m),.v (.tup (ps.map plD)),.v (.int at'),.v (plD (.tell a b ch)),.un,.un,.un]=some (.rt (dnD m (ps.set at' p))):=λa b ch k=>by
  obtain ⟨ini,⟨w,x⟩,rfl⟩:=zMp k.l0
  exact zMr h k at' hl
 cases p with
 |fin=>
  have y0:=yd c 9851 hn
  have y1:=ye c 9851 hn
  have q1:c%m≠(c+1)%m:=by
   have:=h.m0;have:=h.m1
   have:m=2\/m=3\/m=4:=by omega
   rcases this with rfl|rfl|rfl<;>omega
  obtain ⟨p',hp',ef⟩:=fin (c%m) ((c+1)%m) [(Str.ofString "z",mix c 9851 (ps.length:Int))] ⟨zV9 _ (by omega),zV2 _ m0,zV9 _ (by omega),zV2 _ m0,q1,by simp,by simp,by simp,by simpa using okz,by simpa using ⟨y0,y1⟩⟩
  refine ⟨_,h.set at' p' hp',by simp,⟨_,_,rfl,hp'.few⟩,?_⟩
  simp only [dnD,plD,zUc,zVq,chD] at ef e2 ⊢
  exists yi,zAn,qv,hn,hat,e2,m0,zUz,ef,ixO,eqO,eqD,eqL,zP,gN,gT,gCs,gNl,zc,neO,zV,isO
 |tell a b ch=>
  obtain ⟨p',hp',ef⟩:=fin a b ch ok
  refine ⟨_,h.set at' p' hp',by simp,⟨_,_,rfl,hp'.few⟩,?_⟩
  have ne1:eqO (plD (.tell a b ch)) (.tup [.str "end"])=some (.bl false):=by
   have hd:dep (.tup [.str "end"])<=20:=by decide
   unfold eqO;rw [zUp (by omega),zTs]
  simp only [dnD] at ef ⊢
  exists yi,zAn,qv,hn,hat,e2,ne1,ef,ixO,eqD,eqL,zP,gN,gT,gCs,gNl,zc,neO,zV,isO
def tp (p:Pl) (d:Int):Bool:=match p with
 |.fin=>false
 |.tell a b _=>decide (d=a) || decide (d=b)
theorem zO3:((Str.ofString "end" : Str) == Str.ofString "tell")=false:=by decide +kernel
theorem in2 (d a b:Int):inO (.int d) (.tup [.int a,.int b])=some (.bl (decide (d=a) || decide (d=b))):=by
 have e1:(a == d)=decide (d=a):=by rw [zWJ];exact zW1.mpr ⟨λh=>h.symm,λh=>h.symm⟩
 have e2:(b == d)=decide (d=b):=by rw [zWJ];exact zW1.mpr ⟨λh=>h.symm,λh=>h.symm⟩
 have f1:eqD (.int a) (.int d)=(a == d):=by unfold eqD;rfl
 have f2:eqD (.int b) (.int d)=(b == d):=by unfold eqD;rfl
 unfold inO
 rw [zUp (by simp [dep])]
 show some (D.bl (eqD (.int a) (.int d) || (eqD (.int b) (.int d) || false)))=_
 rw [f1,f2,e1,e2,zW2]
theorem zI2 (p:Pl) (d:Int):yh [plD p,.int d]=some (.bl (tp p d)):=by
 cases p with
 |fin=>exists 0,yh,zAm,plD,at0,tp,zO3,ixO
 |tell a b ch=>
  exists 0,yh,zAm,plD,at0,at1,at2,tp,zUz,in2,ixO
def zMt (ps:List Pl) (d n:Int):List Int:=match ps[n.toNat]? with
 |some p=>if tp p d then [] else (chs p).map (·.2)
 |none=>[]
def run (ps:List Pl) (d:Int):Nat->List Int->List Int->Option (List Int)
 |0,_,_=>none
 |k+1,found,ws=>match ws.getLast? with
  |none=>some found
  |some n=>if n∈found then run ps d k found ws.dropLast else run ps d k (found ++ [n]) (ws.dropLast++zMt ps d n)
theorem zHy {c:ROb} {F:ROo} {k:Nat} {ρ ρ':Rho} (h:c ρ=some true) (e:F ρ=some (.nx ρ')\/F ρ=some (.ct ρ')):zBd c F (k+1) ρ=zBd c F k ρ':=by
 rcases e with e|e<;>simp only [zBd,h,zUb,zVU,e]
theorem zKn {c:ROb} {F:ROo} {k:Nat} {ρ:Rho} (h:c ρ=some false):zBd c F (k+1) ρ=some (.nx ρ):=by
 simp [zBd,h]
theorem zGn {α:Type} {ws:List α} {n:α} (h:ws.getLast?=some n):ws=ws.dropLast ++ [n]/\0<ws.length:=by
 obtain ⟨ys,rfl⟩:=List.getLast?_eq_some_iff.mp h
 simp
def tk (found:List Int):List (Key×D):=found.map λn=>(Sum.inl n,D.bl true)
theorem zMu (n:Int):∀ (found:List Int),(zDa (tk found) (.inl n)).isSome=decide (n∈found)
 | []=>rfl
 |x::found=>by
  have ih:=zMu n found
  unfold zDa tk at ih ⊢
  simp only [zUc,zU9]
  by_cases e:x=n
  ·subst e;simp
  ·have e':¬ (Sum.inl x:Key)=Sum.inl n:=λz=>e (by simpa using z)
   have e2:¬ n=x:=λz=>e z.symm
   simp only [e',zV4,zUg,e2,false_or]
   exact ih
theorem zP0 {n:Int} {found:List Int} (h:n∉found):zKd (tk found) (.inl n) (.bl true)=tk (found ++ [n]):=by
 unfold zKd
 rw [zVD]
 ·simp [tk]
 ·simp [tk]
  exact h
def Inn (ps:List Pl) (ws:List Int):Prop:=∀ n∈ws,0<=n/\n<(ps.length:Int)
theorem zMv {m:Int} {ps:List Pl} (h:qL m ps) (d n:Int):Inn ps (zMt ps d n)/\(zMt ps d n).length<=3:=by
 unfold zMt
 split
 ·rename_i p e
  have ok:=h.ok p (zU3 e)
  split
  ·exact ⟨λ_ h=>by simp at h,by simp⟩
  ·refine ⟨λx hx=>?_,by simpa using ok.few⟩
   obtain ⟨q,hq,rfl⟩:=zVA.mp hx
   exact ok.next hq
 ·exact ⟨λ_ h=>by simp at h,by simp⟩
theorem zO4 (ρ:Rho) (hl:ρ.length=7) (ch:List (Str×Int)):zP (gN 7) (λ_=>some true) (b2 (gR 7) (zR 1) ixO) (ch.map chD) (ρ ++ [.un])=some ((ch.map (·.2)).map D.int):=by
 have:=z9 (g:=gN 7) (p:=λ_=>some true) (f:=b2 (gR 7) (zR 1) ixO) (emb:=chD) (ρ:=ρ ++ [.un]) (λ_=>true) (λq=>D.int q.2) ch λq _=>by
  refine ⟨_,rfl,rfl,λ_=>?_⟩
  have e:((ρ ++ [Sl.un]).set 7 (.v (chD q)))[7]?=some (.v (chD q)):=zVG (by simp [hl])
  simp only [chD] at e ⊢
  exists 0,at1,e,ixO
 rw [this,zVn.mpr (by simp),zVa]
 rfl
theorem zKo {m:Int} {ps:List Pl} (h:qL m ps) {d:Int} {s0 s2 s6:Sl} {found ws:List Int} {n:Int} (hf:found.length<=1000) (hw:ws.length<=1000) (hl:ws.getLast?=some n) (hn:0<=n/\n<(ps.length:Int)) :
  (zAZ [s0,.v (.int d),s2,.v (.tup (ps.map plD)),.m (tk found),.l (ws.map D.int),s6]=some (.nx [s0,.v (.int d),s2,.v (.tup (ps.map plD)),.m (tk (if n∈found then found else found ++ [n])),.l ((if n∈found then ws.dropLast else ws.dropLast++zMt ps d n).map D.int),.v (.int n)]) \/
  zAZ [s0,.v (.int d),s2,.v (.tup (ps.map plD)),.m (tk found),.l (ws.map D.int),s6]=some (.ct [s0,.v (.int d),s2,.v (.tup (ps.map plD)),.m (tk (if n∈found then found else found ++ [n])),.l ((if n∈found then ws.dropLast else ws.dropLast++zMt ps d n).map D.int),.v (.int n)])):=by
 obtain ⟨p,hp,e1,e2⟩:=zRk hn.1 hn.2
 have ok:=h.ok p hp
 obtain ⟨ew,hpos⟩:=zGn hl
 have g1:(ws.map D.int)[ws.length-1]?=some (.int n):=by
  rw [zVK,<- List.getLast?_eq_getElem?,hl];rfl
 have gt:=zMu n found
 have tl:(tk found).length<1000000:=by simp [tk];omega
 have hd:(ws.map D.int).dropLast=ws.dropLast.map D.int:=by rw [List.map_dropLast]
 have few:=ok.few
 have hl3:(chs p).length<=1000000:=by omega
 have hl4:ws.length-1+(chs p).length<=1000000:=by omega
 by_cases hm:n∈found
 ·right
  rw [zVk hm] at gt
  simp only [hm,zVU]
  exists 0,zAZ,zTU,g1,zFq,gt,hd,ixO
 ·left
  rw [zVH hm] at gt
  have pt:=zP0 hm
  simp only [hm,zVg]
  cases ht:tp p d with
  |true=>
   have eo:zMt ps d n = []:=by simp [zMt,e1,ht]
   exists 0,zAZ,zTU,g1,zFq,gt,tl,pt,hd,e2,zI2,ht,eo,ixO
  |false=>
   have eo:zMt ps d n=(chs p).map (·.2):=by simp [zMt,e1,ht]
   have cs:=zO4 [s0,.v (.int d),s2,.v (.tup (ps.map plD)),.m (tk (found ++ [n])),.l (ws.dropLast.map D.int),.v (.int n)] rfl (chs p)
   unfold zAZ
   generalize (b2 (gR 7) (zR 1) ixO)=el at cs ⊢
   simp only [zVd,zVh] at cs
   exists zTU,g1,zFq,gt,tl,pt,hd,e2,zI2,ht,eo,zTW,zHx,hl3,cs,zWR,hl4,zUw,ixO,eqO,eqD,eqL,gN,gT,gCs,gNl,zj,zc,neO,zV,isO
def unv (n:Nat) (found:List Int):Nat:=(List.range n).countP λ(i:Nat)=>!decide ((i:Int)∈found)
theorem zE2 {α:Type} {p q:α->Bool}:∀ {l:List α} {x:α},(∀ y∈l,q y=true->p y=true)->x∈l->p x=true->q x=false->l.countP q+1<=l.countP p
 | [],x,_,hx,_,_=>by simp at hx
 |y::l,x,h,hx,h1,h2=>by
  rw [List.countP_cons,List.countP_cons]
  have mono:l.countP q<=l.countP p:=List.countP_mono_left λz hz hq=>h z (zUY _ hz) hq
  rcases zUg.mp hx with rfl|hx
  ·rw [h1,h2];simp;exact mono
  ·have ih:=zE2 (l:=l) (λz hz=>h z (zUY _ hz)) hx h1 h2
   have hy:=h y zUd
   cases e:q y with
   |true=>rw [hy e];simp;omega
   |false=>simp;split<;>omega
theorem zO5 {n:Nat} {found:List Int} {k:Int} (h0:0<=k) (h1:k<(n:Int)) (h:k∉found):unv n (found ++ [k])+1<=unv n found:=by
 refine zE2 (x:=k.toNat) (λy _ hy=>?_) (by simp;omega) ?_ ?_
 ·simp at hy ⊢
  exact hy.1
 ·have:((k.toNat:Nat):Int)=k:=by omega
  simp [this,h]
 ·have:((k.toNat:Nat):Int)=k:=by omega
  simp [this]
theorem zTy (n:Nat) (found:List Int):unv n found<=n:=by
 have:=List.countP_le_length (l:=List.range n) (p:=λ(i:Nat)=>!decide ((i:Int)∈found))
 simpa [unv] using this
theorem T_ap {s0 s1 s2 s3 s4 s6:Sl} {ws:List Int}:zB3 [s0,s1,s2,s3,s4,.l (ws.map D.int),s6]=some (decide (0<ws.length)):=by
 exists 0,zB3,ixO
 congr 1
 exact zW1.mpr (by omega)
theorem zHz {ws:List Int} (h:ws.getLast?=none):ws = []:=by
 cases ws with
 |nil=>rfl
 |cons a l=>simp [List.getLast?_cons] at h
theorem zRo {m:Int} {ps:List Pl} (h:qL m ps) (d:Int):∀ (k:Nat) (found ws:List Int),Inn ps ws->found.length+unv ps.length found<=40->4*unv ps.length found+ws.length<k->k<=1000->∃ f,run ps d k found ws=some f/\f.length<=40 /\
  (∀ s0 s2 s6,∃ s6',zBd zB3 zAZ k [s0,.v (.int d),s2,.v (.tup (ps.map plD)),.m (tk found),.l (ws.map D.int),s6]=some (.nx [s0,.v (.int d),s2,.v (.tup (ps.map plD)),.m (tk f),.l [],s6']))
 |0,_,_,_,_,hk,_=>by omega
 |k+1,found,ws,hi,hf,hk,hk2=>by
  unfold run
  cases e:ws.getLast? with
  |none=>
   have:=zHz e
   subst this
   exact ⟨found,rfl,by omega,λs0 s2 s6=>⟨s6,zKn T_ap⟩⟩
  |some n=>
   obtain ⟨ew,hp⟩:=zGn e
   have hn:=hi n (by rw [ew];simp)
   have hi':Inn ps ws.dropLast:=λx hx=>hi x ((List.dropLast_sublist _).subset hx)
   have tA:=λ(s0 s2 s6:Sl)=>zKo h (d:=d) (s0:=s0) (s2:=s2) (s6:=s6) (found:=found) (by omega) (by omega) e hn
   have go:∀ s0 s1 s2 s3 s4 s6,zB3 [s0,s1,s2,s3,s4,.l (ws.map D.int),s6]=some true:=λ_ _ _ _ _ _=>by rw [T_ap];simp [hp]
   simp only
   by_cases hm:n∈found
   ·simp only [hm,zVU] at tA ⊢
    obtain ⟨f,r1,r2,r3⟩:=zRo h d k found ws.dropLast hi' hf (by rw [zWR];omega) (by omega)
    refine ⟨f,r1,r2,λs0 s2 s6=>?_⟩
    obtain ⟨s6',e'⟩:=r3 s0 s2 (.v (.int n))
    exact ⟨s6',by rw [zHy (go _ _ _ _ _ _) (tA s0 s2 s6),e']⟩
   ·simp only [hm,zVg] at tA ⊢
    have u:=zO5 (n:=ps.length) hn.1 hn.2 hm
    obtain ⟨o1,o2⟩:=zMv h d n
    obtain ⟨f,r1,r2,r3⟩:=zRo h d k (found ++ [n]) (ws.dropLast++zMt ps d n) (λx hx=>by
     rcases zUj.mp hx with hx|hx
     ·exact hi' x hx
     ·exact o1 x hx) (by simp;omega) (by rw [zUr,zWR];omega) (by omega)
    refine ⟨f,r1,r2,λs0 s2 s6=>?_⟩
    obtain ⟨s6',e'⟩:=r3 s0 s2 (.v (.int n))
    exact ⟨s6',by rw [zHy (go _ _ _ _ _ _) (tA s0 s2 s6),e']⟩
theorem zO6 (l:List Int):RD.zKa (l.map D.int)=some l:=by
 induction l with
 |nil=>rfl
 |cons x xs ih=>simp [RD.zKa,ih]
theorem zMw {l:List Int} (h:l.length<64):zFV (.lst (l.map D.int))=some ((zCL l).map D.int):=by
 simp only [zFV,zPn,zUb,zUi,h,zVU,zO6]
theorem zRp (f:List Int):zOF (tk f)=f.map D.int:=by simp [zOF,tk,zLA]
theorem zO7 {m:Int} {ps:List Pl} (h:qL m ps) (d:Int) (some':List Int) (hs:Inn ps some') (hl:some'.length<=100):∃ f,run ps d 300 [] some'=some f/\f.length<=40/\qY [dnD m ps,.int d,.tup (some'.map D.int)]=some (.tup ((zCL f).map D.int)):=by
 have hu:=zTy ps.length []
 have hn:=h.n1
 obtain ⟨f,r1,r2,r3⟩:=zRo h d 300 [] some' hs (by simp;omega) (by omega) (by omega)
 refine ⟨f,r1,r2,?_⟩
 obtain ⟨s6',e⟩:=r3 (.v (dnD m ps)) (.v (.tup (some'.map D.int))) .un
 have e0:ixO (dnD m ps) (.int 1)=some (.tup (ps.map plD)):=by simp only [dnD,ixO,at1]
 have tk0:tk [] = []:=rfl
 rw [tk0] at e
 exists 0,qY,zI0,e0,e,zQ6,zRp,zMw (show f.length<64 by omega)
abbrev zE3:List Str:=["place","dancer"]
noncomputable def zC7:ROo:=(zAA (vOr (b2 (b2 (gR 0) (zR 0) ixO) (λ_=>some (D.str "end")) eqO) (λρ=>((zB (gV 0) (zB (gV 1) zN)) ρ).bind yh)))
noncomputable def zBF (ds:List D):Option D:=zDW zE3 zC7 ds
noncomputable def zAa:ROd:=(b2 (b2 (gR 0) (zR 1) ixO) (gR 4) ixO)
noncomputable def zAb:ROb:=(zK9 (λρ=>((zB (gV 4) (zB (gV 1) zN)) ρ).bind zBF))
noncomputable def zAc:ROd:=(gV 4)
abbrev zBW:List Str:=["dance","dancer","some","places"]
noncomputable def zBX:ROo:=(sq (qD 3 λρ=>((zJ 1 (iT (gV 2)) (gN 4) (λ_=>some true) zAa) ρ).map D.lst) (zAA (λρ=>((zJ 1 (iL (gV 3)) (gN 4) zAb zAc) ρ).map D.lst)))
noncomputable def yT (ds:List D):Option D:=zDW zBW zBX ds
noncomputable def zB5:ROd:=(b2 (gR 2) (zR 0) ixO)
abbrev zDl:List Str:=["turn","dancer"]
noncomputable def zCH:ROo:=(sq (sIf (bB (b2 (b2 (gR 0) (zR 0) ixO) (λ_=>some (D.str "end")) eqO)) (zAA (λρ=>((zB (λ_=>some (D.str "end")) zN) ρ).map D.tup)) (λρ=>some (Out.nx ρ))) (sq (sIf (bB (b2 (b2 (gR 0) (zR 1) ixO) (gR 1) eqO)) (zAA (λρ=>((zB (λ_=>some (D.str "tells")) (zB (b2 (gR 0) (zR 2) ixO) (zB (b1 (λρ=>((zJ 1 (iT (b2 (gR 0) (zR 3) ixO)) (gN 2) (λ_=>some true) zB5) ρ).map D.lst) zHb) zN))) ρ).map D.tup)) (λρ=>some (Out.nx ρ))) (zAA (λρ=>((zB (λ_=>some (D.str "hears")) (zB (b2 (gR 0) (zR 1) ixO) zN)) ρ).map D.tup))))
noncomputable def qi (ds:List D):Option D:=zDW zDl zCH ds
noncomputable def qI:ROd:=(b2 (λρ=>((zB (gV 3) (zB (gV 1) zN)) ρ).bind qi) (gR 2) eqO)
abbrev zA1:List Str:=["turns","dancer","asked"]
noncomputable def qm:Rho->Option zAy:=(sqX (oX (sIf (bB (b2 (b1 (gR 0) zEF) (zR 0) eqO)) (zAA (λρ=>((zB (λ_=>some (D.str "rests")) zN) ρ).map D.tup)) (λρ=>some (Out.nx ρ)))) (sqX (oX (qD 2 (λρ=>((zB (b2 (gR 0) (zR 0) ixO) (zB (gV 1) zN)) ρ).bind qi))) (sqX (zPs (zQp (zK9 (b1 (λρ=>((zJ 1 (iL (gV 0)) (gN 3) (λ_=>some true) qI) ρ).map D.lst) allO))) (zD1 0 (zB (b1 (gR 1) (fsO "dancer " " can't know which of unlike turns it is at")) zN)) (oX λρ=>some (Out.nx ρ))) (oX (zAA (gV 2))))))
noncomputable def yG (ds:List D):Option (Except Nat D):=zQ9 zA1 qm ds
noncomputable def ya:ROo:=(zJj 1 (gV 3) (gV 4))
noncomputable def yz:ROo:=(zf (iT (λρ=>((zB (gV 2) zN) ρ).bind yg)) (gT 2 (gCs (gN 3) (gCs (gN 4) gNl))) ya)
abbrev zAd:List Str:=["turns","nexts","turn","word","number"]
noncomputable def zAe:ROo:=(sq (zMV 1) (sq (zf (iL (gV 0)) (gN 2) yz) (zON 1)))
noncomputable def yw (ds:List D):Option Sl:=zSS zAd zAe ds
noncomputable def zAf:ROo:=(sIf (bB (b2 (b1 (λρ=>((zB (gV 0) (zB (gV 1) (zB (λρ=>((zB (gV 0) (zB (gV 1) (zB (λρ=>((zB (gV 3) zN) ρ).map D.tup) zN))) ρ).bind qY) zN))) ρ).bind yT) zEF) (zR 0) eqO)) (zOE 2 (gV 3) (λ_=>some (D.bl true))) (λρ=>some (Out.nx ρ)))
abbrev zE4:List Str:=["dance","dancer","found","number"]
noncomputable def zB6:ROo:=(sq (zOD 2) (sq (zf (iR1 (zB (b1 (b2 (gR 0) (zR 1) ixO) zEF) zN)) (gN 3) zAf) (zON 2)))
noncomputable def qy (ds:List D):Option Sl:=zSS zE4 zB6 ds
noncomputable def zw:ROd:=(vBin 3 (gV 4))
abbrev yb:List Str:=["dancer","some","turns","vain"]
noncomputable def zq:Rho->Option zAy:=(zPs (bAnd (bB (b2 (b1 (gR 2) zEF) (zR 0) gtO)) (zK9 (b1 (λρ=>((zJ 1 (iT (gV 1)) (gN 4) (λ_=>some true) zw) ρ).map D.lst) anyO))) (zD1 0 (zB (b1 (gR 0) (fsO "dancer " " may wait in vain for its turn")) zN)) (oX λρ=>some (Out.nx ρ)))
noncomputable def zr (ds:List D) (x:Ob):Option (Except Nat D):=zIm λa=>zMY yb zq a ds x
noncomputable def zBY:ROo:=(sq (qD 12 (λρ=>((zB (gV 0) (zB (gV 1) (zB (b1 (zRS 9 (gV 11)) zHb) zN))) ρ).bind qY)) (sq (sIf (zTi 4 (gV 12)) (sq (zOP 4 (gV 12) (b1 (gR 3) zEF)) (zIN 3 (gV 12))) (λρ=>some (Out.nx ρ))) (zIN 10 (λρ=>((zB (gV 11) (zB (tGet 4 (gV 12)) zN)) ρ).map D.tup))))
noncomputable def qM:ROb:=(bB (b2 (b1 (gR 5) zEF) (b1 (gR 3) zEF) ltO))
noncomputable def yV:Rho->Option zAy:=(sqX (oX (qD 6 (b2 (gR 3) (b1 (gR 5) zEF) ixO))) (sqX (oX (qD 7 (λρ=>((zB (gV 0) (zB (gV 1) (zB (gV 6) zN))) ρ).bind yT))) (sqX (zMH (zRW 2 (aCo (gV 1) (aCo (gV 6) (aCo (gV 7) zN))) zr)) (sqX (zOK 8 (λρ=>((zB (gV 7) (zB (gV 1) zN)) ρ).bind yG)) (oX (sq (zEs 9 (zB (gV 7) zN) yw) (sq (zAT 10 zN) (sq (zf (iL (λρ=>((zMW 9) ρ).map D.lst)) (gN 11) zBY) (zIN 5 (vIf (bB (b2 (b2 (gR 8) (zR 0) ixO) (λρ=>((zB (λ_=>some (D.str "tells")) (zB (λ_=>some (D.str "hears")) zN)) ρ).map D.tup) inO)) (λρ=>((zB (b2 (gR 8) (zR 0) ixO) (zB (b2 (gR 8) (zR 1) ixO) (zB (b1 (gR 10) zHb) zN))) ρ).map D.tup) (gV 8)))))))))))
abbrev zE5:List Str:=["dance","dancer","vain","known","numbers","part","some","turns","asked","nexts","pairs","word","come_to"]
noncomputable def zE6:Rho->Option zAy:=(sqX (oX (zEs 2 (zB (gV 0) (zB (gV 1) zN)) qy)) (sqX (oX (zAT 3 (zB (λρ=>((zB (gV 0) (zB (gV 1) (zB (λρ=>((zB (zR 0) zN) ρ).map D.tup) zN))) ρ).bind qY) zN))) (sqX (oX (zKh 4 (b2 (gR 3) (zR 0) ixO) (zR 0))) (sqX (oX (zAT 5 zN)) (sqX (zEm 20000000 qM yV) (oX (zAA (b1 (gR 5) zHb))))))))
noncomputable def qF (ds:List D):Option (Except Nat D):=zQ9 zE5 zE6 ds
def isT (p:Pl) (d:Int):Bool:=match p with
 |.fin=>true
 |p=>tp p d
theorem zTz (p:Pl) (d:Int):zBF [plD p,.int d]=some (.bl (isT p d)):=by
 have e:=zI2 p d
 cases p with
 |fin=>exists 0,zBF,zC7,plD,at0,isT,zUz,ixO
 |tell a b ch=>
  have x0:ixO (plD (.tell a b ch)) (.int 0)=some (.str "tell"):=by simp only [plD,ixO,at0]
  exists 0,zBF,zC7,x0,isT,zIy,e
def zGo (ps:List Pl) (S:List Int):List Pl:=S.filterMap λn=>ps[n.toNat]?
def turns (ps:List Pl) (d:Int) (S:List Int):List Pl:=(zGo ps S).filter λp=>isT p d
theorem zH0 (ps:List Pl) (S:List Int):(zGo ps S).length<=S.length:=List.length_filterMap_le ..
theorem zJs {ps:List Pl} {s0 s1 s2 s3:Sl} {m:Int} (h0:s0 = .v (dnD m ps)):∀ (S:List Int),Inn ps S->zP (gN 4) (λ_=>some true) zAa (S.map D.int) [s0,s1,s2,s3,.un]=some ((zGo ps S).map plD)
 | [],_=>rfl
 |n::S,hi=>by
  subst h0
  have hn:=hi n zUd
  obtain ⟨p,hp,e1,e2⟩:=zRk hn.1 hn.2
  have ih:=zJs (s1:=s1) (s2:=s2) (s3:=s3) (m:=m) rfl S λx hx=>hi x (zUY _ hx)
  have e0:ixO (dnD m ps) (.int 1)=some (.tup (ps.map plD)):=by simp only [dnD,ixO,at1]
  have e5:ixO (.tup (ps.map plD)) (.int n)=some (plD p):=e2
  have ep:zGo ps (n::S)=p::zGo ps S:=by simp [zGo,e1]
  rw [ep,zUc,zUc]
  unfold zP
  rw [ih]
  exists zAa,e0,e5,eqO,eqD,eqL,gN,gT,gCs,gNl,zj,zc,neO,zV,isO
theorem zKp {s0 s1 s2 s3:Sl} {d:Int} (h1:s1 = .v (.int d)) (qs:List Pl):zP (gN 4) zAb zAc (qs.map plD) [s0,s1,s2,s3,.un]=some ((qs.filter λp=>isT p d).map plD):=by
 subst h1
 refine z9 (λp=>isT p d) plD qs λp _=>⟨_,rfl,?_,λ_=>?_⟩
 ·have:=zTz p d
  exists 0,zAb,this,ixO
 ·exists 0,zAc,ixO
theorem zMx {m:Int} {ps:List Pl} (d:Int) {S:List Int} (hi:Inn ps S) (hl:S.length<=1000):yT [dnD m ps,.int d,.tup (S.map D.int)]=some (.lst ((turns ps d S).map plD)):=by
 have h1:=zJs (s0:=.v (dnD m ps)) (s1:=.v (.int d)) (s2:=.v (.tup (S.map D.int))) (s3:=.un) (m:=m) rfl S hi
 have h2:=zKp (s0:=.v (dnD m ps)) (s1:=.v (.int d)) (s2:=.v (.tup (S.map D.int))) (s3:=.v (.lst ((zGo ps S).map plD))) (d:=d) rfl (zGo ps S)
 have l1:S.length<=1000000:=by omega
 have l2:(zGo ps S).length<=1000000:=by have:=zH0 ps S;omega
 unfold yT zBX
 exists h1,h2,l1,l2,turns,ixO,eqO,eqD,eqL,gT,gCs,gNl,zj,zc,neO,zV,isO
def zP1 (p:Pl) (d:Int):D:=match p with
 |.fin=>.tup [.str "end"]
 |.tell a b ch=>if a=d then .tup [.str "tells",.int b,.tup (ch.map λq=>.str q.1)] else .tup [.str "hears",.int a]
theorem zO8 {f:ROd} (ρ:Rho) (ch:List (Str×Int)) (i:Nat) (hf:∀ q:Str×Int,f ((ρ ++ [Sl.un]).set i (.v (chD q)))=some (.str q.1)):zP (gN i) (λ_=>some true) f (ch.map chD) (ρ ++ [Sl.un])=some (ch.map λq=>D.str q.1):=by
 have:=z9 (g:=gN i) (p:=λ_=>some true) (f:=f) (emb:=chD) (ρ:=ρ ++ [Sl.un]) (λ_=>true) (λq=>D.str q.1) ch λq _=>⟨_,rfl,rfl,λ_=>hf q⟩
 rw [this,zVn.mpr (by simp)]
theorem zMy (p:Pl) (d:Int) (hl:(chs p).length<=3):qi [plD p,.int d]=some (zP1 p d):=by
 cases p with
 |fin=>exists 0,qi,zCH,plD,at0,zP1,zUz,ixO
 |tell a b ch=>
  have x0:ixO (plD (.tell a b ch)) (.int 0)=some (.str "tell"):=by simp only [plD,ixO,at0]
  have x1:ixO (plD (.tell a b ch)) (.int 1)=some (.int a):=by simp only [plD,ixO,at1]
  have x2:ixO (plD (.tell a b ch)) (.int 2)=some (.int b):=by simp only [plD,ixO,at2]
  have x3:ixO (plD (.tell a b ch)) (.int 3)=some (.tup (ch.map chD)):=by simp only [plD,ixO,at3]
  have ea:eqO (.int a) (.int d)=some (.bl (decide (a=d))):=by
   unfold eqO;rw [zUp (by simp [dep])];unfold eqD;rw [zWJ]
  have es:eqO (.str "tell") (.str "end")=some (.bl false):=by
   unfold eqO;rw [zUp (by simp [dep])];unfold eqD;rw [zIy]
  have l1:ch.length<=1000000:=by simp only [chs] at hl;omega
  have cf:=zO8 (f:=zB5) [.v (plD (.tell a b ch)),.v (.int d)] ch 2 λq=>by
   exists 0,zB5,chD,at0,ixO
  unfold qi zCH
  simp only [zVd,zVh] at cf
  by_cases h:a=d
  ·rw [zVk h] at ea
   have ak:zP1 (.tell a b ch) d = .tup [.str "tells",.int b,.tup (ch.map λq=>.str q.1)]:=by simp [zP1,h]
   rw [ak]
   exists x0,x1,x2,x3,ea,es,cf,l1,eqD,eqL,gT,gCs,gNl,zj,zc,neO,zV,isO
  ·rw [zVH h] at ea
   have ak:zP1 (.tell a b ch) d = .tup [.str "hears",.int a]:=by simp [zP1,h]
   rw [ak]
   exists x0,x1,x2,x3,ea,es,cf,l1,eqD,eqL,gT,gCs,gNl,zj,zc,neO,zV,isO
inductive Ask where
 |fin|tells (b:Int) (ws:List Str)|hears (a:Int)
deriving DecidableEq
def ask (p:Pl) (d:Int):Ask:=match p with
 |.fin=>.fin
 |.tell a b ch=>if a=d then .tells b (ch.map (·.1)) else .hears a
def zAF:Ask->D
 |.fin=>.tup [.str "end"]
 |.tells b ws=>.tup [.str "tells",.int b,.tup (ws.map D.str)]
 |.hears a=>.tup [.str "hears",.int a]
theorem zMz (p:Pl) (d:Int):zP1 p d=zAF (ask p d):=by
 cases p with
 |fin=>rfl
 |tell a b ch=>
  unfold zP1 ask
  by_cases h:a=d
  ·simp [h,zAF]
  ·simp [h,zAF]
theorem zGp:∀ (l r:List Str),eqL (l.map D.str) (r.map D.str)=decide (l=r)
 | [],[]=>by simp [eqL]
 | [],_::_=>by simp [eqL]
 |_::_,[]=>by simp [eqL]
 |a::l,b::r=>by
  rw [zUc,zUc,eqL,zGp l r,eqD]
  by_cases h:a=b
  ·subst h;simp
  ·simp [h]
theorem s_te:((Str.ofString "tells" : Str) == Str.ofString "end")=false:=by decide +kernel
theorem s_et:((Str.ofString "end" : Str) == Str.ofString "tells")=false:=by decide +kernel
theorem s_he:((Str.ofString "hears" : Str) == Str.ofString "end")=false:=by decide +kernel
theorem s_eh:((Str.ofString "end" : Str) == Str.ofString "hears")=false:=by decide +kernel
theorem s_th:((Str.ofString "tells" : Str) == Str.ofString "hears")=false:=by decide +kernel
theorem s_ht:((Str.ofString "hears" : Str) == Str.ofString "tells")=false:=by decide +kernel
theorem zDm (a b:Int):(a == b)=decide (a=b):=by rw [zWJ]
theorem zT0 (x y:Ask):eqD (zAF x) (zAF y)=decide (x=y):=by
 cases x<;>cases y<;>simp only [zAF,eqD,eqL,zUz,s_te,s_et,s_he,s_eh,s_th,s_ht,zGp,zDm,Bool.and_true,Bool.true_and,Bool.false_and,Bool.and_false,decide_true,zV4,reduceCtorEq]
 ·rename_i b ws b' ws'
  by_cases h:b=b'<;>by_cases h':ws=ws'<;>simp [h,h']
 ·rename_i a a'
  by_cases h:a=a'<;>simp [h]
theorem zRq (x:Ask):dep (zAF x)<=20:=by
 have ds:∀ ws:List Str,depL (ws.map D.str)<=1:=λws=>by
  induction ws with
  |nil=>simp [depL]
  |cons w ws ih=>simp only [zUc,depL,dep] at *;omega
 cases x with
 |fin=>decide
 |tells b ws=>have:=ds ws;simp only [zAF,dep,depL];omega
 |hears a=>simp only [zAF,dep,depL];omega
theorem zRr (x y:Ask):eqO (zAF x) (zAF y)=some (.bl (decide (x=y))):=by
 unfold eqO
 rw [zUp (by have:=zRq x;omega),zT0]
theorem zH1 (l:List Bool):RD.zEk (l.map D.bl)=some l:=by
 induction l with
 |nil=>rfl
 |cons x xs ih=>simp [RD.zEk,ih]
theorem four {d:Int} (h0:0<=d) (h1:d<4):d=0\/d=1\/d=2\/d=3:=by omega
theorem zT1 {a b:Str} {i:Int} (h:0<=i/\i<1000000/\(Str.empty++a++((toString i:String):Str)++b).length<=1000000):∃ x,fsO a b (.int i)=some x:=by
 refine ⟨.str (Str.empty++a++((toString i:String):Str)++b),?_⟩
 simp only [fsO]
 rw [zUp h]
theorem zT2 {d:Int} (h0:0<=d) (h1:d<4):∃ x,fsO "dancer " " can't know which of unlike turns it is at" (.int d)=some x:=by
 rcases four h0 h1 with rfl|rfl|rfl|rfl<;>exact zT1 (by decide +kernel)
theorem zT3 {d:Int} (h0:0<=d) (h1:d<4):∃ x,fsO "dancer " " may wait in vain for its turn" (.int d)=some x:=by
 rcases four h0 h1 with rfl|rfl|rfl|rfl<;>exact zT1 (by decide +kernel)
def zJt (ts:List Pl) (d:Int):Except Nat D:=match ts with
 | []=>.ok (.tup [.str "rests"])
 |t::ts=>if (t::ts).all (λu=>decide (ask u d=ask t d)) then .ok (zAF (ask t d)) else .error 0
theorem zI3 {d:Int} (h0:0<=d) (h1:d<4) (ts:List Pl) (hl:ts.length<=1000) (hc:∀ t∈ts,(chs t).length<=3) :
  yG [.lst (ts.map plD),.int d]=some (zJt ts d):=by
 unfold zJt
 obtain ⟨x,hx⟩:=zT2 h0 h1
 cases ts with
 |nil=>
  exists 0,yG,qm,zQ9,sqX,oX,ixO
 |cons t ts=>
  have i0:ixO (.lst (plD t::ts.map plD)) (.int 0)=some (plD t):=by simp only [ixO,at0]
  have m0:=zMy t d (hc t zUd)
  rw [zMz] at m0
  have cf:zP (gN 3) (λ_=>some true) qI ((t::ts).map plD) [.v (.lst (plD t::ts.map plD)),.v (.int d),.v (zAF (ask t d)),.un]=some (((t::ts).map λu=>decide (ask u d=ask t d)).map D.bl):=by
   have:=z9 (g:=gN 3) (p:=λ_=>some true) (f:=qI) (emb:=plD) (ρ:=[.v (.lst (plD t::ts.map plD)),.v (.int d),.v (zAF (ask t d)),.un]) (λ_=>true) (λu=>D.bl (decide (ask u d=ask t d))) (t::ts) λu hu=>by
    refine ⟨_,rfl,rfl,λ_=>?_⟩
    have m1:=zMy u d (hc u hu)
    rw [zMz] at m1
    exists qI,m1,zRr,ixO,eqD,eqL,zP,gN,gT,gCs,gNl,zj,zc,neO,zV,isO
   rw [this,zVn.mpr (by simp),zVa]
   rfl
  rw [zUc] at cf
  have e0:eqO (.int ((ts.length:Int)+1)) (.int 0)=some (.bl false):=by
   unfold eqO;rw [zUp (by simp [dep])];unfold eqD;rw [zDm,zVH (by omega)]
  have l1:ts.length+1<=1000000:=by simp only [zUa] at hl;omega
  have bb:=zH1 ((t::ts).map λu=>decide (ask u d=ask t d))
  have ba:((t::ts).map λu=>decide (ask u d=ask t d)).all id=(t::ts).all λu=>decide (ask u d=ask t d):=by
   rw [List.all_map];rfl
  generalize ((t::ts).map λu=>decide (ask u d=ask t d))=bs at cf bb ba
  unfold yG qm
  cases ha:(t::ts).all λu=>decide (ask u d=ask t d) with
  |true=>
   rw [ha] at ba
   exists zQ9,sqX,oX,zPs,zD1,i0,m0,cf,e0,l1,bb,ba,zUi,Int.natCast_add,zVW,eqD,eqL,gT,gCs,gNl,zj,zc,neO,zV,isO
   rw [ha];rfl
  |false=>
   rw [ha] at ba
   exists zQ9,sqX,oX,zPs,zD1,i0,m0,cf,e0,l1,bb,ba,zUi,Int.natCast_add,zVW,hx,eqD,eqL,gT,gCs,gNl,zj,zc,neO,zV,isO
   rw [ha];rfl
def wds (qs:List (Str×Int)):List Str:=qs.foldl (λacc q=>if q.1∈acc then acc else acc ++ [q.1]) []
def sel (w:Str) (qs:List (Str×Int)):List Int:=(qs.filter λq=>decide (q.1=w)).map (·.2)
def yl (qs:List (Str×Int)):List (Key×List D):=(wds qs).map λw=>(Sum.inr w,(sel w qs).map D.int)
theorem zC8 (qs:List (Str×Int)) (q:Str×Int):wds (qs ++ [q])=if q.1∈wds qs then wds qs else wds qs ++ [q.1]:=by
 unfold wds;rw [List.foldl_append,zWK,List.foldl_nil]
theorem zGq (w:Str) (qs:List (Str×Int)) (q:Str×Int):sel w (qs ++ [q])=sel w qs++(if q.1=w then [q.2] else []):=by
 unfold sel
 rw [List.filter_append,zUw]
 by_cases h:q.1=w<;>simp [h]
theorem zGr {α:Type} {P:List α->Prop} (h0:P []) (h1:∀ l a,P l->P (l ++ [a])) (l:List α):P l:=by
 have:∀ n (l:List α),l.length=n->P l:=by
  intro n
  induction n with
  |zero=>intro l e;rw [zWa.mp e];exact h0
  |succ n ih=>
   intro l e
   obtain ⟨i,x,rfl⟩:=zMp (l:=l) (by omega)
   exact h1 i x (ih i (by simpa using e))
 exact this _ l rfl
theorem zH2 (qs:List (Str×Int)):(wds qs).Nodup:=by
 refine zGr (P:=λqs=>(wds qs).Nodup) (by simp [wds]) (λl q ih=>?_) qs
 rw [zC8]
 split
 ·exact ih
 ·rename_i h
  exact zVS.mpr ⟨ih,by simp,λa ha b hb=>by simp at hb;subst hb;exact λe=>h (e ▸ ha)⟩
theorem zI4 (qs:List (Str×Int)):(wds qs).length<=qs.length:=by
 refine zGr (P:=λqs=>(wds qs).length<=qs.length) (by simp [wds]) (λl q ih=>?_) qs
 rw [zC8]
 split<;>simp<;>omega
theorem zI5 {qs:List (Str×Int)} {w:Str}:w∈wds qs↔∃ q∈qs,q.1=w:=by
 refine zGr (P:=λqs=>w∈wds qs↔∃ q∈qs,q.1=w) (by simp [wds]) (λl q ih=>?_) qs
 rw [zC8]
 split
 ·rename_i h
  rw [ih]
  constructor
  ·rintro ⟨x,hx,e⟩;exact ⟨x,by simp [hx],e⟩
  ·rintro ⟨x,hx,e⟩
   rcases zUj.mp hx with hx|hx
   ·exact ⟨x,hx,e⟩
   ·simp at hx;subst hx;exact ih.mp (e ▸ h)
 ·rw [zUj,ih]
  constructor
  ·rintro (⟨x,hx,e⟩|hx)
   ·exact ⟨x,by simp [hx],e⟩
   ·simp at hx;exact ⟨q,by simp,hx.symm⟩
  ·rintro ⟨x,hx,e⟩
   rcases zUj.mp hx with hx|hx
   ·exact .inl ⟨x,hx,e⟩
   ·simp at hx;subst hx;exact .inr (by simp [e])
theorem zRs (w:Str) (qs:List (Str×Int)):(sel w qs).length<=qs.length:=by
 unfold sel;rw [zUi];exact zWr ..
theorem zEK (g:Str->List D) (w:Str):∀ L:List Str,zA5 (L.map λv=>((Sum.inr v:Key),g v)) (.inr w)=if w∈L then some (g w) else none
 | []=>rfl
 |v::L=>by
  have ih:=zEK g w L
  unfold zA5 at ih ⊢
  rw [zUc,zU9]
  by_cases e:v=w
  ·subst e;simp
  ·have e1:¬ (Sum.inr v:Key)=Sum.inr w:=λz=>e (by simpa using z)
   have e2:¬ w=v:=λz=>e z.symm
   simp only [e1,zV4,zUg,e2,false_or]
   exact ih
theorem zJu (g:Str->List D) (w:Str) (x:List D):∀ L:List Str,L.Nodup->w∈L->zCh (.inr w) x (L.map λv=>((Sum.inr v:Key),g v))=L.map λv=>((Sum.inr v:Key),if v=w then x else g v)
 | [],_,h=>by simp at h
 |v::L,hn,h=>by
  obtain ⟨h1,h2⟩:=zVC.mp hn
  rw [zUc,zUc]
  by_cases e:v=w
  ·subst e
   simp only [zCh,zVU,zVl,true_and]
   refine zVc λu hu=>?_
   have:u≠v:=λz=>h1 (z ▸ hu)
   simp [this]
  ·have e1:¬ (Sum.inr v:Key)=Sum.inr w:=λz=>e (by simpa using z)
   simp only [zCh,e1,e,zVg,zVl,true_and]
   rcases zUg.mp h with h|h
   ·exact absurd h.symm e
   ·exact zJu g w x L h2 h
theorem zRt {qs:List (Str×Int)} {q:Str×Int} (h:q.1∈wds qs):zA5 (yl qs) (.inr q.1)=some ((sel q.1 qs).map D.int)/\zCh (.inr q.1) ((sel q.1 qs).map D.int ++ [.int q.2]) (yl qs)=yl (qs ++ [q]):=by
 refine ⟨by unfold yl;rw [zEK (λw=>(sel w qs).map D.int),zUp h],?_⟩
 unfold yl
 rw [zJu (λw=>(sel w qs).map D.int) _ _ _ (zH2 qs) h,zC8,zUp h]
 refine zVc λv _=>?_
 rw [zGq]
 by_cases e:v=q.1
 ·simp [e]
 ·simp [e,Ne.symm e]
theorem zRu {qs:List (Str×Int)} {q:Str×Int} (h:q.1∉wds qs):zA5 (yl qs) (.inr q.1)=none/\yl qs ++ [(.inr q.1,[.int q.2])]=yl (qs ++ [q]):=by
 refine ⟨by unfold yl;rw [zEK (λw=>(sel w qs).map D.int),zVD h],?_⟩
 unfold yl
 rw [zC8,zVD h,zUw]
 have s0:sel q.1 qs = []:=by
  unfold sel
  rw [List.map_eq_nil_iff,List.filter_eq_nil_iff]
  intro x hx z
  exact h (zI5.mpr ⟨x,hx,by simpa using z⟩)
 congr 1
 ·refine zVc λv hv=>?_
  have:q.1≠v:=λz=>h (z ▸ hv)
  rw [zGq,zVD this,zVP]
 ·simp [zGq,s0]
theorem zRv {s0 s2:Sl} {qs:List (Str×Int)} {q:Str×Int} (hl:qs.length<=1000):ya [s0,.o none (.p (.ml (yl qs))),s2,.v (.str q.1),.v (.int q.2)]=some (.nx [s0,.o none (.p (.ml (yl (qs ++ [q])))),s2,.v (.str q.1),.v (.int q.2)]):=by
 have l1:(sel q.1 qs).length<1000000:=by have:=zRs q.1 qs;omega
 have l2:(yl qs).length<1000000:=by have:=zI4 qs;simp [yl];omega
 by_cases h:q.1∈wds qs
 ·obtain ⟨h1,h2⟩:=zRt h
  exists 0,ya,zJj,gML,zFq,h1,h2,l1,ixO
 ·obtain ⟨h1,h2⟩:=zRu h
  exists 0,ya,zJj,gML,zFq,h1,h2,l2,ixO
theorem zJv {s0 s2:Sl}:∀ (rs qs:List (Str×Int)) (s3 s4:Sl),(qs++rs).length<=1000->∃ s3' s4',zc (gT 2 (gCs (gN 3) (gCs (gN 4) gNl))) ya (rs.map chD) [s0,.o none (.p (.ml (yl qs))),s2,s3,s4]=some (.nx [s0,.o none (.p (.ml (yl (qs++rs)))),s2,s3',s4'])
 | [],qs,s3,s4,_=>⟨s3,s4,by simp [zc]⟩
 |q::rs,qs,s3,s4,hl=>by
  obtain ⟨s3',s4',ih⟩:=zJv rs (qs ++ [q]) (.v (.str q.1)) (.v (.int q.2)) (by simpa using hl)
  refine ⟨s3',s4',?_⟩
  have hs:=zRv (s0:=s0) (s2:=s2) (qs:=qs) (q:=q) (by simp at hl;omega)
  rw [zUc,zDk (ρ1:=[s0,.o none (.p (.ml (yl qs))),s2,.v (.str q.1),.v (.int q.2)]) (by exists 0,chD,ixO) hs,ih]
  simp
theorem zJw {s0:Sl}:∀ (ts:List Pl) (qs:List (Str×Int)) (s2 s3 s4:Sl),(qs++ts.flatMap chs).length<=1000->∃ s2' s3' s4',zc (gN 2) yz (ts.map plD) [s0,.o none (.p (.ml (yl qs))),s2,s3,s4]=some (.nx [s0,.o none (.p (.ml (yl (qs++ts.flatMap chs)))),s2',s3',s4'])
 | [],qs,s2,s3,s4,_=>⟨s2,s3,s4,by simp [zc]⟩
 |t::ts,qs,s2,s3,s4,hl=>by
  rw [zVI,<- zVZ] at hl ⊢
  obtain ⟨s3',s4',e1⟩:=zJv (s0:=s0) (s2:=.v (plD t)) (chs t) qs s3 s4 (by rw [zUr] at hl;omega)
  obtain ⟨a,b,c,ih⟩:=zJw (s0:=s0) ts (qs++chs t) (.v (plD t)) s3' s4' hl
  refine ⟨a,b,c,?_⟩
  have hs:yz [s0,.o none (.p (.ml (yl qs))),.v (plD t),s3,s4]=some (.nx [s0,.o none (.p (.ml (yl (qs++chs t)))),.v (plD t),s3',s4']):=by
   unfold yz
   exists zHx,e1,ixO,eqO,eqD,eqL,zP,zj,neO,zV,isO
  rw [zUc,zDk (ρ1:=[s0,.o none (.p (.ml (yl qs))),.v (plD t),s3,s4]) (by exists 0,ixO) hs,ih]
theorem zRw {ts:List Pl} (hl:(ts.flatMap chs).length<=1000):yw [.lst (ts.map plD)]=some (.o none (.p (.ml (yl (ts.flatMap chs))))):=by
 obtain ⟨a,b,c,e⟩:=zJw (s0:=.v (.lst (ts.map plD))) ts [] .un .un .un (by simpa using hl)
 have k0:yl [] = []:=rfl
 rw [k0,zVh] at e
 exists yw,zAe,zSS,zRJ,zMV,zON,Sl.isOwn,e,ixO,eqO,eqD,eqL,zP,gT,gCs,gNl,zj,neO,zV,isO
def apt (ps:List Pl) (d:Int) (S:List Int):List Int:=zCL ((run ps d 300 [] S).getD [])
theorem zGs {x y:Int}:∀ {l:List Int},y∈zId x l↔y=x\/y∈l
 | []=>by simp [zId]
 |z::l=>by
  simp only [zId]
  split
  ·simp
  ·simp only [zUg,zGs (l:=l)]
   constructor
   ·rintro (h|h|h)<;>simp [h]
   ·rintro (h|h|h)<;>simp [h]
theorem zE7 {y:Int}:∀ {l:List Int},y∈zCL l↔y∈l
 | []=>by simp [zCL]
 |x::l=>by simp only [zCL,zGs,zE7 (l:=l),zUg]
theorem zJx {x:Int}:∀ {l:List Int},(zId x l).length=l.length+1
 | []=>rfl
 |z::l=>by simp only [zId];split<;>simp [zJx (l:=l)]
theorem zH3:∀ {l:List Int},(zCL l).length=l.length
 | []=>rfl
 |x::l=>by simp only [zCL,zJx,zH3 (l:=l),zUa]
theorem zM0 {x:Int}:∀ {l:List Int},l.Pairwise (· < ·)->x∉l->(zId x l).Pairwise (· < ·)
 | [],_,_=>by simp [zId]
 |z::l,h,n=>by
  obtain ⟨h1,h2⟩:=zUu.mp h
  have nz:x≠z:=λe=>n (by simp [e])
  have nl:x∉l:=λe=>n (by simp [e])
  simp only [zId]
  split
  ·rename_i q
   have hz:x<z:=by omega
   exact zUu.mpr ⟨λy hy=>by
    rcases zUg.mp hy with rfl|hy
    ·exact hz
    ·have:=h1 y hy;omega,h⟩
  ·rename_i q
   refine zUu.mpr ⟨λy hy=>?_,zM0 h2 nl⟩
   rcases zGs.mp hy with rfl|hy
   ·omega
   ·exact h1 y hy
theorem zJy:∀ {l:List Int},l.Nodup->(zCL l).Pairwise (· < ·)
 | [],_=>by simp [zCL]
 |x::l,h=>by
  obtain ⟨h1,h2⟩:=zVC.mp h
  exact zM0 (zJy h2) λhy=>h1 (zE7.mp hy)
theorem zM1 {m:Int} {ps:List Pl} (h:qL m ps) (d:Int):∀ (k:Nat) (found ws f:List Int),Inn ps found->found.Nodup->Inn ps ws->run ps d k found ws=some f->Inn ps f/\f.Nodup
 |0,_,_,_,_,_,_,e=>by simp [run] at e
 |k+1,found,ws,f,hf,hn,hi,e=>by
  unfold run at e
  cases q:ws.getLast? with
  |none=>rw [q] at e;cases e;exact ⟨hf,hn⟩
  |some n=>
   rw [q] at e
   simp only at e
   obtain ⟨ew,hp⟩:=zGn q
   have hn':=hi n (by rw [ew];simp)
   have hi':Inn ps ws.dropLast:=λx hx=>hi x ((List.dropLast_sublist _).subset hx)
   split at e
   ·exact zM1 h d k found ws.dropLast f hf hn hi' e
   ·rename_i hm
    refine zM1 h d k (found ++ [n]) _ f (λx hx=>?_) ?_ (λx hx=>?_) e
    ·rcases zUj.mp hx with hx|hx
     ·exact hf x hx
     ·simp at hx;subst hx;exact hn'
    ·exact zVS.mpr ⟨hn,by simp,λa ha b hb=>by simp at hb;subst hb;exact λz=>hm (z ▸ ha)⟩
    ·rcases zUj.mp hx with hx|hx
     ·exact hi' x hx
     ·exact (zMv h d n).1 x hx
structure zGt (ps:List Pl) (K:List Int):Prop where
 inn:Inn ps K
 up:K.Pairwise (· < ·)
 len:K.length<=40
theorem zH4 {m:Int} {ps:List Pl} (h:qL m ps) (d:Int) {S:List Int} (hs:Inn ps S) (hl:S.length<=100):zGt ps (apt ps d S)/\qY [dnD m ps,.int d,.tup (S.map D.int)]=some (.tup ((apt ps d S).map D.int)):=by
 obtain ⟨f,e1,e2,e3⟩:=zO7 h d S hs hl
 have ea:apt ps d S=zCL f:=by simp [apt,e1]
 obtain ⟨i1,i2⟩:=zM1 h d 300 [] S f (λ_ hx=>by simp at hx) (by simp) hs e1
 rw [ea]
 exact ⟨⟨λn hn=>i1 n (zE7.mp hn),zJy i2,by rw [zH3];exact e2⟩,e3⟩
theorem zRx {n:Int} {found:List Int}:zKd (tk found) (.inl n) (.bl true)=tk (if n∈found then found else found ++ [n]):=by
 by_cases h:n∈found
 ·rw [zUp h]
  unfold zKd
  rw [zUp]
  ·unfold tk
   rw [zVa]
   refine zVc λx _=>?_
   simp only [Function.comp_def]
   split
   ·rename_i e;simp at e;simp [e]
   ·rfl
  ·simp [tk];exact h
 ·rw [zVD h];exact zP0 h
theorem zE8 {g:D->Rho->Option Rho} {F:ROo} (I:Nat->Rho->Prop) (n:Nat):∀ {ds:List D} {k:Nat} {ρ:Rho},k+ds.length<=n->(∀ d∈ds,∀ k ρ,k<n->I k ρ->∃ ρ',(g d ρ).bind F=some (.nx ρ')/\I (k+1) ρ')->I k ρ->∃ ρ',zc g F ds ρ=some (.nx ρ')/\I (k+ds.length) ρ'
 | [],k,ρ,_,_,h=>⟨ρ,rfl,h⟩
 |d::ds,k,ρ,hk,st,h=>by
  rw [zUa] at hk
  obtain ⟨ρ1,e1,h1⟩:=st d zUd k ρ (by omega) h
  obtain ⟨ρ2,e2,h2⟩:=zE8 I n (ds:=ds) (k:=k+1) (ρ:=ρ1) (by omega) (λd' hd=>st d' (zUY _ hd)) h1
  refine ⟨ρ2,?_,?_⟩
  ·obtain ⟨ρ3,e3,e4⟩:=zUX.mp e1
   simp only [zc,e3,zUb,e4,e2]
  ·rw [zUa,show k+(ds.length+1)=k+1+ds.length by omega];exact h2
theorem zM2 (ps:List Pl) (d:Int) (S:List Int):(turns ps d S).length<=S.length:=zVF (zWr ..) (zH0 ps S)
theorem zM3 {m:Int} {ps:List Pl} (h:qL m ps) {d n:Int} (hn:0<=n/\n<(ps.length:Int)) {found:List Int} (hl:found.length<=1000) :
  ∃ found',found'.length<=found.length+1/\zAf [.v (dnD m ps),.v (.int d),.m (tk found),.v (.int n)]=some (.nx [.v (dnD m ps),.v (.int d),.m (tk found'),.v (.int n)]):=by
 have hi:Inn ps [n]:=λx hx=>by simp at hx;subst hx;exact hn
 obtain ⟨a1,a2⟩:=zH4 h d hi (by simp)
 have a3:=zMx (m:=m) d a1.inn (by have:=a1.len;omega)
 simp only [zUc,zVq] at a2
 have l1:(tk found).length<1000000:=by simp [tk];omega
 have e0:eqO (.int (turns ps d (apt ps d [n])).length) (.int 0)=some (.bl (decide (((turns ps d (apt ps d [n])).length:Int)=0))):=by
  unfold eqO;rw [zUp (by simp [dep])];unfold eqD;rw [zDm]
 have pt:=zRx (n:=n) (found:=found)
 by_cases c:((turns ps d (apt ps d [n])).length:Int)=0
 ·rw [zVk c] at e0
  refine ⟨if n∈found then found else found ++ [n],by split<;>simp,?_⟩
  exists zAf,a2,a3,e0,zFq,l1,pt,ixO,eqD,eqL,zP,gN,gT,gCs,gNl,zj,zc,neO,zV,isO
 ·rw [zVH c] at e0
  refine ⟨found,by omega,?_⟩
  exists zAf,a2,a3,e0,zFq,l1,pt,ixO,eqD,eqL,zP,gN,gT,gCs,gNl,zj,zc,neO,zV,isO
theorem zI6 (lo:Int) (n:Nat):(rng lo n).length=n:=by simp [rng]
theorem zT4 {m:Int} {ps:List Pl} (h:qL m ps) (d:Int):∃ found,qy [dnD m ps,.int d]=some (.m (tk found)):=by
 have hp:=h.n1
 obtain ⟨ρ',e,found,s3,hl,rfl⟩:=zE8 (g:=gN 3) (F:=zAf) (λk ρ=>∃ found s3,found.length<=k/\ρ = [.v (dnD m ps),.v (.int d),.m (tk found),s3]) 40 (ds:=rng 0 ps.length) (k:=0) (ρ:=[.v (dnD m ps),.v (.int d),.m (tk []),.un]) (by rw [zI6];omega) (by
  intro x hx k ρ hk hI
  obtain ⟨i,hi,rfl⟩:=zVA.mp hx
  obtain ⟨found,s3,hl,rfl⟩:=hI
  have hi':=zVy.mp hi
  obtain ⟨f',l',e'⟩:=zM3 h (d:=d) (n:=0+(i:Int)) (by omega) (found:=found) (by omega)
  exact ⟨_,by simpa [gN] using e',f',_,by omega,rfl⟩) ⟨[],.un,by simp,rfl⟩
 refine ⟨found,?_⟩
 have e0:ixO (dnD m ps) (.int 1)=some (.tup (ps.map plD)):=by simp only [dnD,ixO,at1]
 have tk0:tk [] = []:=rfl
 rw [tk0] at e
 have ir:RD.inR (ps.length:Int)=true:=zHw (by omega)
 unfold qy zSS
 have e1:zB6 [.v (dnD m ps),.v (.int d),.un,.un]=some (.ro (.m (tk found))):=by
  unfold zB6
  refine (zt (ρ':=[.v (dnD m ps),.v (.int d),.m [],.un]) rfl).trans ((zt ((zAz (zF5 (n:=ps.length) ?_ (by omega))).trans e)).trans rfl)
  simp only [zB,b1,b2,zQm,e0,zEF,zUv,zUb,zUi,zUx]
 show (zB6 [.v (dnD m ps),.v (.int d),.un,.un]).bind zRJ=_
 rw [e1]
 rfl
theorem zO9 {d:Int} (h0:0<=d) (h1:d<4) (K:List Int) (ts:List Pl) (found:List Int) (hl:K.length<=1000):∃ r,(r = .ok .non\/r = .error 0)/\zr [.int d,.tup (K.map D.int),.lst (ts.map plD)] (.p (.m (tk found)))=some r:=by
 obtain ⟨x,hx⟩:=zT3 h0 h1
 have cf:∀ a:Addr,zP (gN 4) (λ_=>some true) zw (K.map D.int) [.v (.int d),.v (.tup (K.map D.int)),.v (.lst (ts.map plD)),.b a (.p (.m (tk found))),.un]=some ((K.map λn=>decide (n∈found)).map D.bl):=λa=>by
  have:=z9 (g:=gN 4) (p:=λ_=>some true) (f:=zw) (emb:=D.int) (ρ:=[.v (.int d),.v (.tup (K.map D.int)),.v (.lst (ts.map plD)),.b a (.p (.m (tk found))),.un]) (λ_=>true) (λn=>D.bl (decide (n∈found))) K λn _=>by
   refine ⟨_,rfl,rfl,λ_=>?_⟩
   have gt:=zMu n found
   exists 0,zw,vBin,zDb,zFq,gt,ixO
  rw [this,zVn.mpr (by simp),zVa]
  rfl
 have bb:=zH1 (K.map λn=>decide (n∈found))
 generalize (K.map λn=>decide (n∈found))=bs at cf bb
 have l1:K.length<=1000000:=by omega
 by_cases c:ts.length=0
 ·refine ⟨.ok .non,.inl rfl,qV λa=>?_⟩
  exists zMY,zq,zPs,oX,zD1,c,ixO,eqO,eqD,eqL,gT,gCs,gNl,zj,zc,neO,zV,isO
 ·have c':(0:Int)<(ts.length:Int):=by omega
  cases hb:bs.any id with
  |true=>
   refine ⟨.error 0,.inr rfl,qV λa=>?_⟩
   exists zMY,zq,zPs,oX,zD1,c',cf,l1,bb,hb,hx,ixO,eqO,eqD,eqL,gT,gCs,gNl,zj,zc,neO,zV,isO
  |false=>
   refine ⟨.ok .non,.inl rfl,qV λa=>?_⟩
   exists zMY,zq,zPs,oX,zD1,c',cf,l1,bb,hb,hx,ixO,eqO,eqD,eqL,gT,gCs,gNl,zj,zc,neO,zV,isO
def zLC {α:Type}:List α->List (List α)
 | []=>[[]]
 |x::l=>zLC l++(zLC l).map (x :: ·)
theorem zJz {α:Type}:∀ l:List α,(zLC l).length=2 ^ l.length
 | []=>rfl
 |x::l=>by rw [zLC,zUr,zUi,zJz l,zUa,Nat.pow_succ];omega
theorem zJ0 {α:Type} {s l:List α} (h:s.Sublist l):s∈zLC l:=by
 induction h with
 |slnil=>simp [zLC]
 |cons a _ ih=>exact zUj.mpr (.inl ih)
 |cons_cons a _ ih=>exact zUj.mpr (.inr (zVA.mpr ⟨_,ih,rfl⟩))
theorem zGu {α:Type} [DecidableEq α]:∀ {l L:List α},l.Nodup->(∀ x∈l,x∈L)->l.length<=L.length
 | [],_,_,_=>zV7 _
 |x::l,L,h,k=>by
  obtain ⟨h1,h2⟩:=zVC.mp h
  have hx:=k x zUd
  have ih:=zGu (l:=l) (L:=L.erase x) h2 λy hy=>(List.mem_erase_of_ne (λ(e:y=x)=>h1 (e ▸ hy))).mpr (k y (zUY _ hy))
  rw [List.length_erase_of_mem hx] at ih
  have:0<L.length:=List.length_pos_of_mem hx
  rw [zUa];omega
def tg1 (e h:Int):Pl->List Int
 |.fin=>[]
 |.tell a b ch=>if a=e/\b=h then ch.map (·.2) else []
def tgt (ps:List Pl) (e h:Int):List Int:=ps.flatMap (tg1 e h)
theorem zE9 (e h:Int):∀ ps:List Pl,(tgt ps e h).length=qZ e h (ps.map plD)
 | []=>rfl
 |p::ps=>by
  have ih:=zE9 e h ps
  unfold tgt at ih ⊢
  rw [zVI,zUr,ih,zUc,qZ]
  congr 1
  cases p with
  |fin=>rfl
  |tell a b ch=>
   simp only [tg1,plD,zMh,pr]
   split<;>simp
def zST (ps:List Pl) (d:Int):List (List Int):=apt ps d [0] :: [0,1,2,3].flatMap λ(e:Int)=>(zLC (tgt ps e d)).map (apt ps d)++(zLC (tgt ps d e)).map (apt ps d)
def Few (ps:List Pl):Prop:=∀ e h,qZ e h (ps.map plD)<=18
theorem zJ1 {ps:List Pl} (hf:Few ps) (d:Int):(zST ps d).length<=2097153:=by
 have p:∀ e h,(zLC (tgt ps e h)).length<=262144:=λe h=>by
  rw [zJz,zE9]
  exact zVF (Nat.pow_le_pow_right (by decide) (hf e h)) (by decide)
 have a0:=p 0 d;have a1:=p 1 d;have a2:=p 2 d;have a3:=p 3 d
 have b0:=p d 0;have b1:=p d 1;have b2:=p d 2;have b3:=p d 3
 simp only [zST,zVI,List.flatMap_nil,zUa,zUr,zUi,zUq]
 omega
theorem zPA {α β:Type} {g:α->List β} {s l:List α} (h:s.Sublist l):(s.flatMap g).Sublist (l.flatMap g):=by
 induction h with
 |slnil=>simp
 |cons a _ ih=>rw [zVI];exact ih.trans (List.sublist_append_right ..)
 |cons_cons a _ ih=>rw [zVI,zVI];exact (List.Sublist.refl _).append ih
theorem zJ2 {α β:Type} {f g:α->Option β}:∀ {l:List α},(∀ x∈l,f x=g x)->l.filterMap f=l.filterMap g
 | [],_=>rfl
 |x::l,h=>by rw [zVm,zVm,h x zUd,zJ2 λy hy=>h y (zUY _ hy)]
theorem zH5:∀ (ps:List Pl) (off:Int) (K:List Int),K.Pairwise (· < ·)->(∀ n∈K,off<=n/\n<off+(ps.length:Int))->(K.filterMap λn=>ps[(n-off).toNat]?).Sublist ps
 |[],off,K,_,h=>by
  cases K with
  |nil=>simp
  |cons n K=>have:=h n zUd;simp at this;omega
 |p::ps,off,K,hp,h=>by
  have up:∀ K:List Int,K.Pairwise (· < ·)->(∀ n∈K,off<n/\n<off+((p::ps).length:Int))->(K.filterMap λn=>(p::ps)[(n-off).toNat]?).Sublist ps:=λK hp h=>by
   have:=zH5 ps (off+1) K hp λn hn=>by have:=h n hn;simp only [zUa] at this;omega
   rw [show (K.filterMap λn=>(p::ps)[(n-off).toNat]?)=K.filterMap λn=>ps[(n-(off+1)).toNat]? from zJ2 λn hn=>by
    have:=h n hn
    rw [show (n-off).toNat=(n-(off+1)).toNat+1 by omega,zVB]]
   exact this
  cases K with
  |nil=>simp
  |cons n K=>
   obtain ⟨h1,h2⟩:=zUu.mp hp
   have hn:=h n zUd
   by_cases e:n=off
   ·subst e
    rw [zVm]
    simp only [Int.sub_self,Int.toNat_zero,zUv]
    exact (up K h2 λx hx=>⟨h1 x hx,(h x (zUY _ hx)).2⟩).cons_cons p
   ·refine (up (n::K) hp λx hx=>⟨?_,(h x hx).2⟩).cons p
    rcases zUg.mp hx with rfl|hx
    ·omega
    ·have:=h1 x hx;omega
theorem zM4 {ps:List Pl} {K:List Int} (h:zGt ps K) (d:Int):(turns ps d K).Sublist ps:=by
 have:=zH5 ps 0 K h.up λn hn=>by have:=h.inn n hn;omega
 simp only [Int.sub_zero] at this
 exact (List.filter_sublist).trans this
def zFA (ps:List Pl) (d:Int) (K:List Int):List (Str×Int):=(turns ps d K).flatMap chs
def zRy (ps:List Pl) (d:Int) (K:List Int) (w:Str):List Int:=apt ps d (sel w (zFA ps d K))
def zGv (ps:List Pl) (d:Int) (K:List Int):Bool:=match turns ps d K with
 | []=>true
 |t::ts=>(t::ts).all λu=>decide (ask u d=ask t d)
theorem zP2 {ps:List Pl} {d:Int} {K:List Int} (h:zGt ps K) (ha:zGv ps d K=true):zFA ps d K = []\/∃ e h,(e=d\/h=d)/\(∃ t∈turns ps d K,∃ ch,t = .tell e h ch)/\((zFA ps d K).map (·.2)).Sublist (tgt ps e h):=by
 have sub:=zM4 h d
 have tt:∀ t∈turns ps d K,isT t d=true:=λt ht=>(zVr.mp ht).2
 unfold zFA
 unfold zGv at ha
 cases e:turns ps d K with
 |nil=>left;rfl
 |cons t ts=>
  rw [e] at ha sub tt
  simp only [zWU,zWC] at ha
  have fin:∀ e h,(∀ u∈t::ts,∃ ch,u = .tell e h ch)->((((t::ts).flatMap chs)).map (·.2)).Sublist (tgt ps e h):=λe h k=>by
   have e1:((t::ts).flatMap chs).map (·.2)=(t::ts).flatMap (tg1 e h):=by
    rw [List.map_flatMap]
    have cg:∀ (l:List Pl),(∀ u∈l,∃ ch,u = .tell e h ch)->l.flatMap (λa=>(chs a).map (·.2))=l.flatMap (tg1 e h):=by
     intro l
     induction l with
     |nil=>intro _;rfl
     |cons u l ih=>
      intro k
      obtain ⟨ch,rfl⟩:=k u zUd
      rw [zVI,zVI,ih λv hv=>k v (zUY _ hv)]
      simp [chs,tg1]
    exact cg _ k
   rw [e1]
   exact zPA sub
  cases t with
  |fin=>
   left
   rw [List.flatMap_eq_nil_iff]
   intro u hu
   have:=ha u hu
   cases u with
   |fin=>rfl
   |tell a b ch=>simp only [ask] at this;split at this<;>cases this
  |tell a b ch=>
   right
   by_cases c:a=d
   ·subst c
    refine ⟨a,b,.inl rfl,⟨_,zUd,ch,rfl⟩,fin a b λu hu=>?_⟩
    have:=ha u hu
    cases u with
    |fin=>simp [ask] at this
    |tell a' b' ch'=>
     simp only [ask,zVU] at this
     split at this
     ·rename_i z;subst z;injection this with this _;subst this;exact ⟨_,rfl⟩
     ·cases this
   ·have hb:b=d:=by
     have:=tt _ zUd
     simp only [isT,tp,zW4,zWC] at this
     rcases this with z|z
     ·exact absurd z.symm c
     ·exact z.symm
    subst hb
    refine ⟨a,b,.inr rfl,⟨_,zUd,ch,rfl⟩,fin a b λu hu=>?_⟩
    have:=ha u hu
    have t2:=tt u hu
    cases u with
    |fin=>simp [ask,c] at this
    |tell a' b' ch'=>
     simp only [ask,c,zVg] at this
     split at this
     ·cases this
     ·rename_i z
      cases this
      simp only [isT,tp,zW4,zWC] at t2
      rcases t2 with q|q
      ·exact absurd q.symm z
      ·subst q;exact ⟨_,rfl⟩
theorem zRz (w:Str) (qs:List (Str×Int)):(sel w qs).Sublist (qs.map (·.2)):=List.Sublist.map _ (List.filter_sublist)
theorem zGw {m:Int} {ps:List Pl} (h:qL m ps) {d:Int} {K:List Int} {t:Pl} (ht:t∈turns ps d K):okP m (λn=>0<=n/\n<(ps.length:Int)) t:=by
 have:=(zVr.mp ht).1
 obtain ⟨n,_,e⟩:=zU6.mp this
 exact h.ok t (zU3 e)
theorem zT5 {m:Int} {ps:List Pl} (h:qL m ps) {d:Int} {K:List Int} {q:Str×Int} (hq:q∈zFA ps d K):(0<=q.2/\q.2<(ps.length:Int))/\okW q.1:=by
 obtain ⟨t,ht,hc⟩:=zVv.mp hq
 have ok:=zGw h ht
 refine ⟨ok.next hc,?_⟩
 cases t with
 |fin=>simp [chs] at hc
 |tell a b ch=>exact ok.wd q hc
theorem zR0 {m:Int} {ps:List Pl} (h:qL m ps) (hf:Few ps) {d:Int} (hd:0<=d/\d<m) {K:List Int} (hk:zGt ps K) (ha:zGv ps d K=true) (w:Str) (hw:w∈wds (zFA ps d K)) :
  zRy ps d K w∈zST ps d/\Inn ps (sel w (zFA ps d K))/\(sel w (zFA ps d K)).length<=18:=by
 have inn:Inn ps (sel w (zFA ps d K)):=λn hn=>by
  obtain ⟨q,hq,rfl⟩:=zVA.mp hn
  exact (zT5 h (zVr.mp hq).1).1
 obtain ⟨q,hq,_⟩:=zI5.mp hw
 rcases zP2 hk ha with z|⟨e,e',hdd,⟨t,ht,ch,rfl⟩,s⟩
 ·rw [z] at hq;simp at hq
 ·have s':=(zRz w (zFA ps d K)).trans s
  have ok:okT m _ e e' ch:=zGw h ht
  have hm:=h.m1
  refine ⟨?_,inn,zVF s'.length_le (by rw [zE9];exact hf _ _)⟩
  refine zUY _ (zVv.mpr ?_)
  have e0:=ok.a0;have e1:=ok.a1;have e2:=ok.b0;have e3:=ok.b1
  rcases hdd with rfl|rfl
  ·exact ⟨e',by rcases four e2 (by omega) with z|z|z|z<;>simp [z],zUj.mpr (.inr (zVA.mpr ⟨_,zJ0 s',rfl⟩))⟩
  ·exact ⟨e,by rcases four e0 (by omega) with z|z|z|z<;>simp [z],zUj.mpr (.inl (zVA.mpr ⟨_,zJ0 s',rfl⟩))⟩
theorem zP3 {ps:List Pl} (hf:Few ps) {d:Int} {K:List Int} (hk:zGt ps K) (ha:zGv ps d K=true):(zFA ps d K).length<=18:=by
 rcases zP2 hk ha with z|⟨e,e',_,_,s⟩
 ·rw [z];simp
 ·have:=s.length_le
  rw [zUi,zE9] at this
  exact zVF this (hf _ _)
def zAB (K:List Int):D:=.tup (K.map D.int)
def zJ3 (Ks:List (List Int)) (K:List Int):Nat:=match Ks with
 | []=>0
 |K'::r=>if K'=K then 0 else zJ3 r K+1
theorem zM5 {K:List Int}:∀ {Ks:List (List Int)},K∈Ks->zJ3 Ks K<Ks.length
 | [],h=>by simp at h
 |K'::r,h=>by
  unfold zJ3
  split
  ·simp
  ·rename_i n
   rcases zUg.mp h with e|h
   ·exact absurd e.symm n
   ·have:=zM5 h;rw [zUa];omega
theorem zGx {K:List Int} (r:List (List Int)):∀ {Ks:List (List Int)},K∈Ks->zJ3 (Ks++r) K=zJ3 Ks K
 | [],h=>by simp at h
 |K'::Ks,h=>by
  rw [zVd]
  unfold zJ3
  split
  ·rfl
  ·rename_i n
   rcases zUg.mp h with e|h
   ·exact absurd e.symm n
   ·rw [zGx r h]
def zDn (i:Nat):List (List Int)->List (List Key×D)
 | []=>[]
 |K::r=>(K.map Sum.inl,.int i)::zDn (i+1) r
abbrev yL (Ks:List (List Int)):List (List Key×D):=zDn 0 Ks
theorem zM6 {K K':List Int}:K.map (Sum.inl:Int->Key)=K'.map Sum.inl↔K=K':=by
 constructor
 ·intro h
  induction K generalizing K' with
  |nil=>cases K' with
   |nil=>rfl
   |cons=>simp at h
  |cons a K ih=>cases K' with
   |nil=>simp at h
   |cons b K'=>simp only [zUc,zVl,Sum.inl.injEq] at h;rw [h.1,ih h.2]
 ·rintro rfl;rfl
theorem zGy {K:List Int}:∀ (Ks:List (List Int)) (i:Nat),zA5 (zDn i Ks) (K.map Sum.inl)=if K∈Ks then some (.int ((i+zJ3 Ks K:Nat):Int)) else none
 | [],i=>rfl
 |K'::r,i=>by
  have ih:=zGy (K:=K) r (i+1)
  unfold zA5 at ih ⊢
  rw [zDn,zU9]
  by_cases e:K'=K
  ·subst e;simp [zJ3]
  ·have e1:¬ (K'.map (Sum.inl:Int->Key))=K.map Sum.inl:=λz=>e (zM6.mp z)
   have e2:¬ K=K':=λz=>e z.symm
   simp only [e1,zV4,zUg,e2,false_or,zJ3,e,zVg]
   rw [ih]
   split
   ·congr 3;omega
   ·rfl
theorem zPB {K:List Int} {Ks:List (List Int)} (h:K∉Ks):zRL (yL Ks) (K.map Sum.inl) (.int (Ks.length:Int))=yL (Ks ++ [K]):=by
 have g:∀ (Ks:List (List Int)) (i:Nat),K∉Ks->((zDn i Ks).any λkv=>decide (kv.1=K.map Sum.inl))=false/\zDn i Ks ++ [(K.map Sum.inl,.int ((i+Ks.length:Nat):Int))]=zDn i (Ks ++ [K]):=by
  intro Ks
  induction Ks with
  |nil=>intro i _;exact ⟨rfl,rfl⟩
  |cons K' r ih=>
   intro i h
   obtain ⟨h1,h2⟩:=ih (i+1) λz=>h (zUY _ z)
   refine ⟨?_,?_⟩
   ·rw [zDn,zV3,h1,zW2]
    exact zVH λz=>h (by rw [zM6.mp z];simp)
   ·rw [zDn,zVd,zVd,zDn,<- h2,zUa,show i+(r.length+1)=i+1+r.length by omega]
 obtain ⟨h1,h2⟩:=g Ks 0 h
 unfold zRL
 rw [h1,zVD (by simp)]
 rw [Nat.zero_add] at h2
 exact h2
theorem zJ4:∀ (Ks:List (List Int)) (i:Nat),(zDn i Ks).length=Ks.length
 | [],_=>rfl
 |K::r,i=>by rw [zDn,zUa,zJ4 r,zUa]
theorem zM7 (K:List Int):zMM (zAB K)=some (K.map Sum.inl):=by
 have:∀ K:List Int,zML (K.map D.int)=some (K.map Sum.inl):=by
  intro K
  induction K with
  |nil=>rfl
  |cons n K ih=>simp [zML,zFq,ih]
 exact this K
theorem zT6 (w:Str) (n:Int):D.tup [.str w,.int n]=chD (w,n):=rfl
def zF7 (Ks:List (List Int)) (N:List Int):List (List Int):=if N∈Ks then Ks else Ks ++ [N]
theorem zJ5 (Ks:List (List Int)) (N:List Int):N∈zF7 Ks N:=by unfold zF7;split<;>simp [*]
theorem zPC (Ks:List (List Int)) (N:List Int):∃ r,zF7 Ks N=Ks++r:=by
 unfold zF7;split
 ·exact ⟨[],by simp⟩
 ·exact ⟨[N],rfl⟩
theorem zR1 {Ks:List (List Int)} {N:List Int} (h:Ks.Nodup):(zF7 Ks N).Nodup:=by
 unfold zF7;split
 ·exact h
 ·rename_i n
  exact zVS.mpr ⟨h,by simp,λa ha b hb=>by simp at hb;subst hb;exact λz=>n (z ▸ ha)⟩
theorem zM8 {m:Int} {ps:List Pl} {d:Int} {s2 s5 s6 s7 s8 s12:Sl} {Ks:List (List Int)} {qs prs:List (Str×Int)} {w:Str} (hw:w∈wds qs) (ha:qY [dnD m ps,.int d,.tup ((sel w qs).map D.int)]=some (zAB (apt ps d (sel w qs)))) (hk:Ks.length<16000000) (hp:prs.length<16000000) :
  zBY [.v (dnD m ps),.v (.int d),s2,.l (Ks.map zAB),.o none (.p (.t (yL Ks))),s5,s6,s7,s8,.o none (.p (.ml (yl qs))),.l (prs.map chD),.v (.str w),s12] =
   some (.nx [.v (dnD m ps),.v (.int d),s2,.l ((zF7 Ks (apt ps d (sel w qs))).map zAB),.o none (.p (.t (yL (zF7 Ks (apt ps d (sel w qs)))))),s5,s6,s7,s8,.o none (.p (.ml (yl qs))),.l ((prs ++ [(w,(zJ3 (zF7 Ks (apt ps d (sel w qs))) (apt ps d (sel w qs)):Int))]).map chD),.v (.str w),.v (zAB (apt ps d (sel w qs)))]):=by
 have g:zA5 (yl qs) (.inr w)=some ((sel w qs).map D.int):=by unfold yl;rw [zEK (λw=>(sel w qs).map D.int),zUp hw]
 generalize apt ps d (sel w qs)=N at *
 have kN:=zM7 N
 have ng:=zGy (K:=N) Ks 0
 have ng2:=zGy (K:=N) (zF7 Ks N) 0
 rw [zUp (zJ5 Ks N),Nat.zero_add] at ng2
 have nl:=zJ4 Ks 0
 unfold zBY
 refine (zt (ρ':=[.v (dnD m ps),.v (.int d),s2,.l (Ks.map zAB),.o none (.p (.t (yL Ks))),s5,s6,s7,s8,.o none (.p (.ml (yl qs))),.l (prs.map chD),.v (.str w),.v (zAB N)]) ?_).trans ?_
 ·exists 0,zRS,gML,zFq,g,ha,ixO
 ·have s1:(sIf (zTi 4 (gV 12)) (sq (zOP 4 (gV 12) (b1 (gR 3) zEF)) (zIN 3 (gV 12))) (λρ=>some (Out.nx ρ))) [.v (dnD m ps),.v (.int d),s2,.l (Ks.map zAB),.o none (.p (.t (yL Ks))),s5,s6,s7,s8,.o none (.p (.ml (yl qs))),.l (prs.map chD),.v (.str w),.v (zAB N)] =
   some (.nx [.v (dnD m ps),.v (.int d),s2,.l ((zF7 Ks N).map zAB),.o none (.p (.t (yL (zF7 Ks N)))),s5,s6,s7,s8,.o none (.p (.ml (yl qs))),.l (prs.map chD),.v (.str w),.v (zAB N)]):=by
   by_cases c:N∈Ks
   ·rw [zUp c] at ng
    have ea:zF7 Ks N=Ks:=by simp [zF7,c]
    rw [ea]
    exists 0,zTi,gT',kN,ng,Option.isSome_some,ixO
   ·rw [zVD c] at ng
    have ea:zF7 Ks N=Ks ++ [N]:=by simp [zF7,c]
    have np:=zPB c
    rw [ea]
    have hk2:(zDn 0 Ks).length<16000000:=by rw [nl];exact hk
    exists 0,zTi,gT',zOP,kN,ng,Option.isSome_none,hk2,hk,np,zUw,ixO
  refine (zt s1).trans ?_
  exists 0,tGet,gT',kN,ng2,hp,zUw,zT6,ixO
theorem zF8 {m:Int} {ps:List Pl} {d:Int} {s2 s5 s6 s7 s8:Sl} {qs:List (Str×Int)} (B:Nat) (hB:B<8000000) (pl:List (List Int)) (hpl:pl.length<=B)
  (ha:∀ w∈wds qs,apt ps d (sel w qs)∈pl/\qY [dnD m ps,.int d,.tup ((sel w qs).map D.int)]=some (zAB (apt ps d (sel w qs)))) :
  ∀ (ws:List Str) (Ks:List (List Int)) (prs:List (Str×Int)) (s11 s12:Sl),(∀ w∈ws,w∈wds qs)->Ks.Nodup->(∀ K∈Ks,K∈pl)->prs.length+ws.length<16000000 ->
   ∃ r s11' s12',(Ks++r).Nodup/\(∀ K∈Ks++r,K∈pl)/\(∀ w∈ws,apt ps d (sel w qs)∈Ks++r) /\
    zc (gN 11) zBY (ws.map D.str) [.v (dnD m ps),.v (.int d),s2,.l (Ks.map zAB),.o none (.p (.t (yL Ks))),s5,s6,s7,s8,.o none (.p (.ml (yl qs))),.l (prs.map chD),s11,s12] =
     some (.nx [.v (dnD m ps),.v (.int d),s2,.l ((Ks++r).map zAB),.o none (.p (.t (yL (Ks++r)))),s5,s6,s7,s8,.o none (.p (.ml (yl qs))),.l ((prs++ws.map λw=>(w,(zJ3 (Ks++r) (apt ps d (sel w qs)):Int))).map chD),s11',s12'])
 | [],Ks,prs,s11,s12,_,hn,hs,_=>⟨[],s11,s12,by simpa using hn,by simpa using hs,by simp,by simp [zc]⟩
 |w::ws,Ks,prs,s11,s12,hw,hn,hs,hl=>by
  have hw0:=hw w zUd
  obtain ⟨a1,a2⟩:=ha w hw0
  rw [zUa] at hl
  have kl:=zGu hn hs
  obtain ⟨r1,er1⟩:=zPC Ks (apt ps d (sel w qs))
  have st:=zM8 (s2:=s2) (s5:=s5) (s6:=s6) (s7:=s7) (s8:=s8) (s12:=s12) (Ks:=Ks) (prs:=prs) hw0 a2 (by omega) (by omega)
  have hn1:=zR1 (N:=apt ps d (sel w qs)) hn
  have hm1:=zJ5 Ks (apt ps d (sel w qs))
  have hs1:∀ K∈zF7 Ks (apt ps d (sel w qs)),K∈pl:=λK hK=>by
   unfold zF7 at hK
   split at hK
   ·exact hs K hK
   ·rcases zUj.mp hK with hK|hK
    ·exact hs K hK
    ·simp at hK;subst hK;exact a1
  obtain ⟨r,s11',s12',i1,i2,i3,i4⟩:=zF8 B hB pl hpl ha ws (zF7 Ks (apt ps d (sel w qs))) (prs ++ [(w,(zJ3 (zF7 Ks (apt ps d (sel w qs))) (apt ps d (sel w qs)):Int))]) (.v (.str w)) (.v (zAB (apt ps d (sel w qs)))) (λv hv=>hw v (zUY _ hv)) hn1 hs1 (by simp;omega)
  have ix:=zGx r hm1
  rw [er1] at st i1 i2 i3 i4 ix hm1
  rw [zVZ] at i1 i2 i3
  refine ⟨r1++r,s11',s12',i1,i2,λv hv=>?_,?_⟩
  ·rcases zUg.mp hv with rfl|hv
   ·rw [<- zVZ];exact zUj.mpr (.inl hm1)
   ·exact i3 v hv
  ·rw [zUc,zDk (ρ1:=[.v (dnD m ps),.v (.int d),s2,.l (Ks.map zAB),.o none (.p (.t (yL Ks))),s5,s6,s7,s8,.o none (.p (.ml (yl qs))),.l (prs.map chD),.v (.str w),s12]) rfl st,i4,<- zVZ,<- ix]
   simp
theorem zCT {F G:Rho->Option zAy} {ρ ρ':Rho} (h:F ρ=some (.o (.nx ρ'))):sqX F G ρ=G ρ':=by simp only [sqX,h,zUb]
theorem zJ6 {F G:Rho->Option zAy} {ρ:Rho} {c:Nat} (h:F ρ=some (.ex c)):sqX F G ρ=some (.ex c):=by simp only [sqX,h,zUb]
theorem zH6 {F:ROo} {ρ:Rho} {o:Out} (h:F ρ=some o):oX F ρ=some (.o o):=by simp only [oX,h,zUx]
inductive St where
 |fin|rests|act (t:Bool) (o:Int) (prs:List (Str×Int))
def stD:St->D
 |.fin=>.tup [.str "end"]
 |.rests=>.tup [.str "rests"]
 |.act t o prs=>.tup [.str (if t then "tells" else "hears"),.int o,.tup (prs.map chD)]
def zAg (ps:List Pl) (d:Int) (K:List Int):List Str:=zAw (wds (zFA ps d K))
def zD8 (ps:List Pl) (d:Int) (Ks:List (List Int)) (K:List Int):List (Str×Int):=(zAg ps d K).map λw=>(w,(zJ3 Ks (zRy ps d K w):Int))
def zI7 (ps:List Pl) (d:Int) (Ks:List (List Int)) (K:List Int):St:=match turns ps d K with
 | []=>.rests
 |t::_=>match ask t d with
  |.fin=>.fin
  |.tells b _=>.act true b (zD8 ps d Ks K)
  |.hears a=>.act false a (zD8 ps d Ks K)
def zJ7 (ps:List Pl) (d:Int) (Ks:List (List Int)) (K:List Int):Prop:=∀ w∈zAg ps d K,zRy ps d K w∈Ks
theorem zPD {ps:List Pl} {d:Int} {Ks:List (List Int)} {K:List Int} (h:zJ7 ps d Ks K) (r:List (List Int)):zI7 ps d (Ks++r) K=zI7 ps d Ks K:=by
 have:zD8 ps d (Ks++r) K=zD8 ps d Ks K:=zVc λw hw=>by rw [zGx r (h w hw)]
 unfold zI7
 rw [this]
theorem zM9 (x:Ask):inO (match x with | .fin=>D.str "end" | .tells _ _=>D.str "tells" | .hears _=>D.str "hears") (.tup [.str "tells",.str "hears"])=some (.bl (match x with | .fin=>false|_=>true)):=by
 cases x<;>(unfold inO;rw [zUp (by simp [dep])];simp only [zV3,List.any_nil,eqD,zUz,s_te,s_he,s_th,zW2,Bool.or_true,Bool.true_or])
theorem zPE:inO (D.str "rests") (.tup [.str "tells",.str "hears"])=some (.bl false):=by
 have a:((Str.ofString "tells" : Str) == Str.ofString "rests")=false:=by decide +kernel
 have b:((Str.ofString "hears" : Str) == Str.ofString "rests")=false:=by decide +kernel
 unfold inO;rw [zUp (by simp [dep])];simp only [zV3,List.any_nil,eqD,a,b,zW2]
def zCU (ps:List Pl) (d:Int) (K:List Int):D:=match turns ps d K with
 | []=>.tup [.str "rests"]
 |t::_=>zAF (ask t d)
theorem zR2 {ps:List Pl} {d:Int} {Ks:List (List Int)} {K:List Int} {s0 s1 s2 s3 s4 s6 s7 s9 s11 s12:Sl} {sts:List St} (hl:sts.length<16000000) :
  (zIN 5 (vIf (bB (b2 (b2 (gR 8) (zR 0) ixO) (λρ=>((zB (λ_=>some (D.str "tells")) (zB (λ_=>some (D.str "hears")) zN)) ρ).map D.tup) inO)) (λρ=>((zB (b2 (gR 8) (zR 0) ixO) (zB (b2 (gR 8) (zR 1) ixO) (zB (b1 (gR 10) zHb) zN))) ρ).map D.tup) (gV 8)))
   [s0,s1,s2,s3,s4,.l (sts.map stD),s6,s7,.v (zCU ps d K),s9,.l ((zD8 ps d Ks K).map chD),s11,s12] =
   some (.nx [s0,s1,s2,s3,s4,.l ((sts ++ [zI7 ps d Ks K]).map stD),s6,s7,.v (zCU ps d K),s9,.l ((zD8 ps d Ks K).map chD),s11,s12]):=by
 unfold zCU zI7
 cases turns ps d K with
 |nil=>
  have i0:ixO (.tup [.str "rests"]) (.int 0)=some (.str "rests"):=by simp only [ixO,at0]
  exists 0,vIf,i0,zPE,hl,zUw,stD
 |cons t ts=>
  simp only
  generalize ask t d=x
  cases x with
  |fin=>
   have i0:ixO (zAF .fin) (.int 0)=some (.str "end"):=by simp only [zAF,ixO,at0]
   have ia:=zM9 .fin
   exists 0,vIf,i0,ia,hl,zUw,stD
   rfl
  |tells b ws=>
   have i0:ixO (zAF (.tells b ws)) (.int 0)=some (.str "tells"):=by simp only [zAF,ixO,at0]
   have i1:ixO (zAF (.tells b ws)) (.int 1)=some (.int b):=by simp only [zAF,ixO,at1]
   have ia:=zM9 (.tells b ws)
   exists 0,vIf,i0,i1,ia,hl,zUw,stD
  |hears a=>
   have i0:ixO (zAF (.hears a)) (.int 0)=some (.str "hears"):=by simp only [zAF,ixO,at0]
   have i1:ixO (zAF (.hears a)) (.int 1)=some (.int a):=by simp only [zAF,ixO,at1]
   have ia:=zM9 (.hears a)
   exists 0,vIf,i0,i1,ia,hl,zUw,stD
theorem zD4 {ps:List Pl} {d:Int} {K:List Int} {w:Str}:w∈zAg ps d K↔w∈wds (zFA ps d K):=zBC
theorem zPF (qs:List (Str×Int)):(yl qs).map (λq=>zLA q.1)=(wds qs).map D.str:=by
 unfold yl
 rw [zVa]
 rfl
theorem zNA {l:List Str} (h:l.length<64):zFV (.lst (l.map D.str))=some ((zAw l).map D.str):=zC6 h
theorem zT7 {m:Int} {ps:List Pl} (h:qL m ps) {e e' n:Int} (hn:n∈tgt ps e e'):0<=n/\n<(ps.length:Int):=by
 obtain ⟨p,hp,hm⟩:=zVv.mp hn
 cases p with
 |fin=>simp [tg1] at hm
 |tell a b ch=>
  simp only [tg1] at hm
  split at hm
  ·obtain ⟨q,hq,rfl⟩:=zVA.mp hm
   exact (h.ok _ hp:okT _ _ _ _ _).nx q hq
  ·simp at hm
theorem zI8 {α:Type} {s:List α}:∀ {l:List α},s∈zLC l->s.Sublist l
 | [],h=>by simp [zLC] at h;subst h;simp
 |x::l,h=>by
  rcases zUj.mp h with h|h
  ·exact (zI8 h).cons x
  ·obtain ⟨s',h',rfl⟩:=zVA.mp h
   exact (zI8 h').cons_cons x
theorem zPG {m:Int} {ps:List Pl} (h:qL m ps) (hf:Few ps) {d:Int} {K:List Int} (hK:K∈zST ps d):zGt ps K:=by
 have one:∀ e e' S,S∈zLC (tgt ps e e')->zGt ps (apt ps d S):=λe e' S hS=>by
  have s:=zI8 hS
  refine (zH4 h d (λn hn=>zT7 h (s.subset hn)) ?_).1
  have:=s.length_le
  rw [zE9] at this
  have:=hf e e'
  omega
 rcases zUg.mp hK with rfl|hK
 ·exact (zH4 h d (λn hn=>by simp at hn;subst hn;have:=h.n0;omega) (by simp)).1
 ·obtain ⟨e,_,hK⟩:=zVv.mp hK
  rcases zUj.mp hK with hK|hK
  ·obtain ⟨S,hS,rfl⟩:=zVA.mp hK;exact one _ _ S hS
  ·obtain ⟨S,hS,rfl⟩:=zVA.mp hK;exact one _ _ S hS
structure PS (m:Int) (ps:List Pl) (d:Int):Prop where
 dn:qL m ps
 few:Few ps
 d0:0<=d
 d1:d<m
structure zR3 (ps:List Pl) (d:Int) (Ks:List (List Int)) (sts:List St):Prop where
 nd:Ks.Nodup
 pl:∀ K∈Ks,K∈zST ps d
 st:∀ K∈Ks,zGt ps K
 le:sts.length<=Ks.length
 cl:∀ K∈Ks.take sts.length,zJ7 ps d Ks K/\zGv ps d K=true
 eq:sts=(Ks.take sts.length).map (zI7 ps d Ks)
theorem zR3.len {ps:List Pl} {d:Int} {Ks:List (List Int)} {sts:List St} (I:zR3 ps d Ks sts) (hf:Few ps):Ks.length<=2097153:=zVF (zGu I.nd I.pl) (zJ1 hf d)
theorem zT8 {s0 s1 s2 s4 s6 s7 s8 s9 s10 s11 s12:Sl} {xs ys:List D}:qM [s0,s1,s2,.l xs,s4,.l ys,s6,s7,s8,s9,s10,s11,s12]=some (decide (ys.length<xs.length)):=by
 exists 0,qM,ixO
 congr 1
 exact zW1.mpr (by omega)
theorem zNB {m:Int} {ps:List Pl} {d:Int} (h:PS m ps d) {vs:List Int} {Ks:List (List Int)} {sts:List St} (I:zR3 ps d Ks sts) (hl:sts.length<Ks.length) (s6 s7 s8 s9 s10 s11 s12:Sl) :
  yV [.v (dnD m ps),.v (.int d),.m (tk vs),.l (Ks.map zAB),.o none (.p (.t (yL Ks))),.l (sts.map stD),s6,s7,s8,s9,s10,s11,s12]=some (.ex 0) \/
  ∃ r st s6' s7' s8' s9' s10' s11' s12',zR3 ps d (Ks++r) (sts ++ [st])/\yV [.v (dnD m ps),.v (.int d),.m (tk vs),.l (Ks.map zAB),.o none (.p (.t (yL Ks))),.l (sts.map stD),s6,s7,s8,s9,s10,s11,s12] =
   some (.o (.nx [.v (dnD m ps),.v (.int d),.m (tk vs),.l ((Ks++r).map zAB),.o none (.p (.t (yL (Ks++r)))),.l ((sts ++ [st]).map stD),s6',s7',s8',s9',s10',s11',s12'])):=by
 have d4:d<4:=by have:=h.dn.m1;have:=h.d1;omega
 have hK:Ks[sts.length]?=some Ks[sts.length]:=by simp [hl]
 generalize Ks[sts.length]=K at hK
 have mK:K∈Ks:=zU3 hK
 have sK:=I.st K mK
 have lK:=sK.len
 have kl:=I.len h.few
 have i1:ixO (.lst (Ks.map zAB)) (.int (sts.length:Int))=some (zAB K):=by
  have:¬ ((sts.length:Int)<0):=by omega
  have hg:Ks[sts.length]=K:=by rw [List.getElem?_eq_getElem hl] at hK;exact zVY hK
  simp [ixO,atI,ixN,hl,hg]
 have mt:=zMx (m:=m) d sK.inn (by omega)
 obtain ⟨r,hr,mr⟩:=zO9 h.d0 d4 K (turns ps d K) vs (by omega)
 have tl:=zM2 ps d K
 have ma:=zI3 h.d0 d4 (turns ps d K) (by omega) λt ht=>(zGw h.dn ht).few
 have st1:yV [.v (dnD m ps),.v (.int d),.m (tk vs),.l (Ks.map zAB),.o none (.p (.t (yL Ks))),.l (sts.map stD),s6,s7,s8,s9,s10,s11,s12]=yV [.v (dnD m ps),.v (.int d),.m (tk vs),.l (Ks.map zAB),.o none (.p (.t (yL Ks))),.l (sts.map stD),s6,s7,s8,s9,s10,s11,s12]:=rfl
 unfold yV
 have q1:∀ G:Rho->Option zAy,sqX (oX (qD 6 (b2 (gR 3) (b1 (gR 5) zEF) ixO))) G [.v (dnD m ps),.v (.int d),.m (tk vs),.l (Ks.map zAB),.o none (.p (.t (yL Ks))),.l (sts.map stD),s6,s7,s8,s9,s10,s11,s12]=G [.v (dnD m ps),.v (.int d),.m (tk vs),.l (Ks.map zAB),.o none (.p (.t (yL Ks))),.l (sts.map stD),.v (zAB K),s7,s8,s9,s10,s11,s12]:=λG=>
  zCT (zH6 (by exists 0,i1))
 have q2:∀ G:Rho->Option zAy,sqX (oX (qD 7 (λρ=>((zB (gV 0) (zB (gV 1) (zB (gV 6) zN))) ρ).bind yT))) G [.v (dnD m ps),.v (.int d),.m (tk vs),.l (Ks.map zAB),.o none (.p (.t (yL Ks))),.l (sts.map stD),.v (zAB K),s7,s8,s9,s10,s11,s12]=G [.v (dnD m ps),.v (.int d),.m (tk vs),.l (Ks.map zAB),.o none (.p (.t (yL Ks))),.l (sts.map stD),.v (zAB K),.v (.lst ((turns ps d K).map plD)),s8,s9,s10,s11,s12]:=λG=>
  zCT (zH6 (by exists 0,zAB,mt))
 have e3:(zMH (zRW 2 (aCo (gV 1) (aCo (gV 6) (aCo (gV 7) zN))) zr)) [.v (dnD m ps),.v (.int d),.m (tk vs),.l (Ks.map zAB),.o none (.p (.t (yL Ks))),.l (sts.map stD),.v (zAB K),.v (.lst ((turns ps d K).map plD)),s8,s9,s10,s11,s12]=(some r:Option (Except Nat D)).map (λr=>match r with | .ok _=>.o (.nx [.v (dnD m ps),.v (.int d),.m (tk vs),.l (Ks.map zAB),.o none (.p (.t (yL Ks))),.l (sts.map stD),.v (zAB K),.v (.lst ((turns ps d K).map plD)),s8,s9,s10,s11,s12]) | .error c=>.ex c):=by
  rw [<- mr]
  rfl
 rw [q1,q2]
 rcases hr with rfl|rfl
 ·rw [zCT e3]
  by_cases al:zGv ps d K=true
  ·right
   have ma':yG [.lst ((turns ps d K).map plD),.int d]=some (.ok (zCU ps d K)):=by
    rw [ma]
    unfold zGv at al
    unfold zCU zJt
    cases e:turns ps d K with
    |nil=>rfl
    |cons t ts=>rw [e] at al;simp only at al ⊢;rw [zUp al]
   have qf:=zP3 h.few sK al
   have nx:=λw hw=>zR0 h.dn h.few ⟨h.d0,h.d1⟩ sK al w hw
   have ap:=λw (hw:w∈wds (zFA ps d K))=>zH4 h.dn d (nx w hw).2.1 (by have:=(nx w hw).2.2;omega)
   have mn:=zRw (ts:=turns ps d K) (by show (zFA ps d K).length<=1000;omega)
   have wl:=zI4 (zFA ps d K)
   have sl:(zAg ps d K).length<=18:=by unfold zAg;rw [zBD];omega
   have so:=zNA (l:=wds (zFA ps d K)) (by omega)
   obtain ⟨rr,s11',s12',p1,p2,p3,p4⟩:=zF8 (m:=m) (ps:=ps) (d:=d) (s2:=.m (tk vs)) (s5:=.l (sts.map stD)) (s6:=.v (zAB K)) (s7:=.v (.lst ((turns ps d K).map plD))) (s8:=.v (zCU ps d K)) (qs:=zFA ps d K) 2097153 (by decide) (zST ps d) (zJ1 h.few d) (λw hw=>⟨(nx w hw).1,(ap w hw).2⟩) (zAg ps d K) Ks [] s11 s12 (λw hw=>zD4.mp hw) I.nd I.pl (by simp;omega)
   have ePr:([]++(zAg ps d K).map λw=>(w,(zJ3 (Ks++rr) (apt ps d (sel w (zFA ps d K))):Int)))=zD8 ps d (Ks++rr) K:=by rw [zVh];rfl
   rw [ePr,zVq] at p4
   refine ⟨rr,zI7 ps d (Ks++rr) K,.v (zAB K),.v (.lst ((turns ps d K).map plD)),.v (zCU ps d K),.o none (.p (.ml (yl (zFA ps d K)))),.l ((zD8 ps d (Ks++rr) K).map chD),s11',s12',?_,?_⟩
   ·have cK:zJ7 ps d (Ks++rr) K:=p3
    have tk1:(Ks++rr).take (sts ++ [zI7 ps d (Ks++rr) K]).length=Ks.take sts.length ++ [K]:=by
     rw [zUr,zVE,List.take_append_of_le_length (by omega),List.take_succ,hK];rfl
    refine ⟨p1,p2,λK' hK'=>?_,by simp;omega,λK' hK'=>?_,?_⟩
    ·rcases zUj.mp hK' with hK' | hK'
     ·exact I.st K' hK'
     ·exact zPG h.dn h.few (p2 K' (zUj.mpr (.inr hK')))
    ·rw [tk1] at hK'
     rcases zUj.mp hK' with hK' | hK'
     ·obtain ⟨c1,c2⟩:=I.cl K' hK'
      exact ⟨λw hw=>zUj.mpr (.inl (c1 w hw)),c2⟩
     ·simp at hK';subst hK';exact ⟨cK,al⟩
    ·rw [tk1,zUw,List.map_singleton]
     congr 1
     rw [show (Ks.take sts.length).map (zI7 ps d (Ks++rr))=(Ks.take sts.length).map (zI7 ps d Ks) from zVc λK' hK'=>zPD (I.cl K' hK').1 rr]
     exact I.eq
   ·refine (zCT (ρ':=[.v (dnD m ps),.v (.int d),.m (tk vs),.l (Ks.map zAB),.o none (.p (.t (yL Ks))),.l (sts.map stD),.v (zAB K),.v (.lst ((turns ps d K).map plD)),.v (zCU ps d K),s9,s10,s11,s12]) ?_).trans ?_
    ·exists 0,zOK,ma'
    ·refine zH6 ?_
     refine (zt (ρ':=[.v (dnD m ps),.v (.int d),.m (tk vs),.l (Ks.map zAB),.o none (.p (.t (yL Ks))),.l (sts.map stD),.v (zAB K),.v (.lst ((turns ps d K).map plD)),.v (zCU ps d K),.o none (.p (.ml (yl (zFA ps d K)))),s10,s11,s12]) ?_).trans ?_
     ·exists 0,zEs,mn
      rfl
     ·refine (zt (ρ':=[.v (dnD m ps),.v (.int d),.m (tk vs),.l (Ks.map zAB),.o none (.p (.t (yL Ks))),.l (sts.map stD),.v (zAB K),.v (.lst ((turns ps d K).map plD)),.v (zCU ps d K),.o none (.p (.ml (yl (zFA ps d K)))),.l [],s11,s12]) rfl).trans ?_
      refine (zt ((zAz (ds:=(zAg ps d K).map D.str) ?_).trans p4)).trans ?_
      ·exists 0,zMW,gML,zPF,so,zAg
      ·exact zR2 (by omega)
  ·left
   refine zJ6 ?_
   have ma':yG [.lst ((turns ps d K).map plD),.int d]=some (.error 0):=by
    rw [ma]
    unfold zGv at al
    unfold zJt
    cases e:turns ps d K with
    |nil=>rw [e] at al;exact absurd rfl al
    |cons t ts=>rw [e] at al;simp only at al ⊢;rw [zVD al]
   exists 0,zOK,ma'
 ·left;exact zJ6 e3
theorem zNC {c:ROb} {F:Rho->Option zAy} {k:Nat} {ρ ρ':Rho} (h:c ρ=some true) (e:F ρ=some (.o (.nx ρ'))):zAk c F (k+1) ρ=zAk c F k ρ':=by
 simp only [zAk,h,zUb,zVU,e]
theorem zND {c:ROb} {F:Rho->Option zAy} {k n:Nat} {ρ:Rho} (h:c ρ=some true) (e:F ρ=some (.ex n)):zAk c F (k+1) ρ=some (.ex n):=by
 simp only [zAk,h,zUb,zVU,e]
theorem zKq {c:ROb} {F:Rho->Option zAy} {k:Nat} {ρ:Rho} (h:c ρ=some false):zAk c F (k+1) ρ=some (.o (.nx ρ)):=by
 simp [zAk,h]
theorem zH7 {m:Int} {ps:List Pl} {d:Int} (h:PS m ps d) (vs:List Int):∀ (n:Nat) (Ks:List (List Int)) (sts:List St) (s6 s7 s8 s9 s10 s11 s12:Sl),zR3 ps d Ks sts->2097153<n+sts.length ->
  zAk qM yV n [.v (dnD m ps),.v (.int d),.m (tk vs),.l (Ks.map zAB),.o none (.p (.t (yL Ks))),.l (sts.map stD),s6,s7,s8,s9,s10,s11,s12]=some (.ex 0) \/
  ∃ r sts' s6' s7' s8' s9' s10' s11' s12',zR3 ps d (Ks++r) sts'/\sts'.length=(Ks++r).length/\zAk qM yV n [.v (dnD m ps),.v (.int d),.m (tk vs),.l (Ks.map zAB),.o none (.p (.t (yL Ks))),.l (sts.map stD),s6,s7,s8,s9,s10,s11,s12] =
   some (.o (.nx [.v (dnD m ps),.v (.int d),.m (tk vs),.l ((Ks++r).map zAB),.o none (.p (.t (yL (Ks++r)))),.l (sts'.map stD),s6',s7',s8',s9',s10',s11',s12']))
 |0,Ks,sts,s6,s7,s8,s9,s10,s11,s12,I,hn=>by have:=I.len h.few;have:=I.le;omega
 |n+1,Ks,sts,s6,s7,s8,s9,s10,s11,s12,I,hn=>by
  have tp:=zT8 (s0:=.v (dnD m ps)) (s1:=.v (.int d)) (s2:=.m (tk vs)) (s4:=.o none (.p (.t (yL Ks)))) (s6:=s6) (s7:=s7) (s8:=s8) (s9:=s9) (s10:=s10) (s11:=s11) (s12:=s12) (xs:=Ks.map zAB) (ys:=sts.map stD)
  rw [zUi,zUi] at tp
  by_cases hl:sts.length<Ks.length
  ·rw [zVk hl] at tp
   rcases zNB h (vs:=vs) I hl s6 s7 s8 s9 s10 s11 s12 with e|⟨r,st,a6,a7,a8,a9,a10,a11,a12,I',e⟩
   ·left;exact zND tp e
   ·rw [zNC tp e]
    rcases zH7 h vs n (Ks++r) (sts ++ [st]) a6 a7 a8 a9 a10 a11 a12 I' (by simp;omega) with e' | ⟨r',sts',b6,b7,b8,b9,b10,b11,b12,J,jl,e'⟩
    ·left;exact e'
    ·right
     rw [zVZ] at J jl e'
     exact ⟨r++r',sts',b6,b7,b8,b9,b10,b11,b12,J,jl,e'⟩
  ·rw [zVH hl] at tp
   right
   refine ⟨[],sts,s6,s7,s8,s9,s10,s11,s12,by simpa using I,by have:=I.le;simp;omega,?_⟩
   rw [zKq tp,zVP]
structure IsPart (ps:List Pl) (d:Int) (Ks:List (List Int)):Prop where
 nd:Ks.Nodup
 ze:Ks[0]?=some (apt ps d [0])
 st:∀ K∈Ks,zGt ps K
 cl:∀ K∈Ks,zJ7 ps d Ks K
 al:∀ K∈Ks,zGv ps d K=true
 le:Ks.length<=2097153
def zT9 (ps:List Pl) (d:Int) (Ks:List (List Int)):D:=.tup ((Ks.map (zI7 ps d Ks)).map stD)
theorem zR4 {N:List Str} {F:Rho->Option zAy} {ds:List D} {ρ:Rho} (h:ds.map Sl.v++List.replicate (N.length-ds.length) .un=ρ):zQ9 N F ds=(F ρ).bind λo=>match o with
  |.o (.rt d)=>some (.ok d)
  |.o (.nx _)=>some (.ok .non)
  |.ex c=>some (.error c)
  |_=>none:=by subst h;rfl
theorem zGz {i:Nat} {fl:ROl} {F:List D->Option Sl} {ρ:Rho} {ds:List D} {s:Sl} (h1:fl ρ=some ds) (h2:F ds=some s):zEs i fl F ρ=some (.nx (ρ.set i s)):=by
 unfold zEs;rw [h1,zUb,h2,zUx]
theorem zUA {m:Int} {ps:List Pl} {d:Int} (h:PS m ps d) (N:Nat) (hN:2097153<N) :
  (sqX (oX (zEs 2 (zB (gV 0) (zB (gV 1) zN)) qy)) (sqX (oX (zAT 3 (zB (λρ=>((zB (gV 0) (zB (gV 1) (zB (λρ=>((zB (zR 0) zN) ρ).map D.tup) zN))) ρ).bind qY) zN))) (sqX (oX (zKh 4 (b2 (gR 3) (zR 0) ixO) (zR 0))) (sqX (oX (zAT 5 zN)) (sqX (zEm N qM yV) (oX (zAA (b1 (gR 5) zHb)))))))) [.v (dnD m ps),.v (.int d),.un,.un,.un,.un,.un,.un,.un,.un,.un,.un,.un]=some (.ex 0) \/
  ∃ Ks,IsPart ps d Ks/\(sqX (oX (zEs 2 (zB (gV 0) (zB (gV 1) zN)) qy)) (sqX (oX (zAT 3 (zB (λρ=>((zB (gV 0) (zB (gV 1) (zB (λρ=>((zB (zR 0) zN) ρ).map D.tup) zN))) ρ).bind qY) zN))) (sqX (oX (zKh 4 (b2 (gR 3) (zR 0) ixO) (zR 0))) (sqX (oX (zAT 5 zN)) (sqX (zEm N qM yV) (oX (zAA (b1 (gR 5) zHb)))))))) [.v (dnD m ps),.v (.int d),.un,.un,.un,.un,.un,.un,.un,.un,.un,.un,.un]=some (.o (.rt (zT9 ps d Ks))):=by
 obtain ⟨vs,mv⟩:=zT4 h.dn d
 obtain ⟨s0,a0⟩:=zH4 h.dn d (S:=[0]) (λn hn=>by simp at hn;subst hn;have:=h.dn.n0;omega) (by simp)
 simp only [zUc,zVq] at a0
 have kz:=zM7 (apt ps d [0])
 have I0:zR3 ps d [apt ps d [0]] []:=⟨by simp,λK hK=>by simp at hK;subst hK;exact zUd,λK hK=>by simp at hK;subst hK;exact s0,by simp,by simp,by simp⟩
 have pre:∀ G:Rho->Option zAy,(sqX (oX (zEs 2 (zB (gV 0) (zB (gV 1) zN)) qy)) (sqX (oX (zAT 3 (zB (λρ=>((zB (gV 0) (zB (gV 1) (zB (λρ=>((zB (zR 0) zN) ρ).map D.tup) zN))) ρ).bind qY) zN))) (sqX (oX (zKh 4 (b2 (gR 3) (zR 0) ixO) (zR 0))) (sqX (oX (zAT 5 zN)) G)))) [.v (dnD m ps),.v (.int d),.un,.un,.un,.un,.un,.un,.un,.un,.un,.un,.un] =
   G [.v (dnD m ps),.v (.int d),.m (tk vs),.l ([apt ps d [0]].map zAB),.o none (.p (.t (yL [apt ps d [0]]))),.l (([]:List St).map stD),.un,.un,.un,.un,.un,.un,.un]:=λG=>by
  refine (zCT (ρ':=[.v (dnD m ps),.v (.int d),.m (tk vs),.un,.un,.un,.un,.un,.un,.un,.un,.un,.un]) (zH6 ?_)).trans ((zCT (ρ':=[.v (dnD m ps),.v (.int d),.m (tk vs),.l [zAB (apt ps d [0])],.un,.un,.un,.un,.un,.un,.un,.un,.un]) (zH6 ?_)).trans ((zCT (ρ':=[.v (dnD m ps),.v (.int d),.m (tk vs),.l [zAB (apt ps d [0])],.o none (.p (.t (yL [apt ps d [0]]))),.un,.un,.un,.un,.un,.un,.un,.un]) (zH6 ?_)).trans (zCT (zH6 rfl))))
  ·exact zGz rfl mv
  ·exists 0,a0
   rfl
  ·have i0:ixO (.lst [zAB (apt ps d [0])]) (.int 0)=some (zAB (apt ps d [0])):=by simp only [ixO,at0]
   exists 0,zKh,i0,kz
   rfl
 have lp:=zH7 h vs N [apt ps d [0]] [] .un .un .un .un .un .un .un I0 (by simpa using hN)
 rw [pre]
 unfold zEm
 rcases lp with e|⟨r,sts,s6,s7,s8,s9,s10,s11,s12,I,hl,e⟩
 ·left
  exact zJ6 e
 ·right
  have tkl:([apt ps d [0]]++r).take sts.length = [apt ps d [0]]++r:=by rw [hl];exact zWz
  refine ⟨[apt ps d [0]]++r,⟨I.nd,rfl,I.st,λK hK=>(I.cl K (by rw [tkl];exact hK)).1,λK hK=>(I.cl K (by rw [tkl];exact hK)).2,I.len h.few⟩,?_⟩
  have es:=I.eq
  rw [tkl] at es
  rw [zCT e]
  show some (zAy.o (Out.rt (D.tup (sts.map stD))))=some (zAy.o (Out.rt (D.tup ((([apt ps d [0]]++r).map (zI7 ps d ([apt ps d [0]]++r))).map stD))))
  rw [<- es]
theorem zR5 {m:Int} {ps:List Pl} {d:Int} (h:PS m ps d):qF [dnD m ps,.int d]=some (.error 0)\/∃ Ks,IsPart ps d Ks/\qF [dnD m ps,.int d]=some (.ok (zT9 ps d Ks)):=by
 have q:=zUA h 20000000 (by decide)
 unfold qF
 rw [zR4 (ρ:=[.v (dnD m ps),.v (.int d),.un,.un,.un,.un,.un,.un,.un,.un,.un,.un,.un]) rfl]
 unfold zE6
 rcases q with e|⟨Ks,hk,e⟩
 ·left;rw [e];rfl
 ·right;refine ⟨Ks,hk,?_⟩;rw [e];rfl
abbrev zDo:List Str:=["thing"]
noncomputable def zDp:ROo:=(zAA (zN1 (b1 (gR 0) (zTZ "int")) (vNot (b1 (gR 0) (zTZ "bool")))))
noncomputable def zAJ (ds:List D):Option D:=zDW zDo zDp ds
noncomputable def zC9 (C:Addr):Rho->Option (Except Nat D):=(λρ=>((zB (gV 1) (zB (gV 2) zN)) ρ).bind qF)
noncomputable def zCI (C:Addr):ROd:=(zR 0)
abbrev zNE:List Str:=["self","dance"]
noncomputable def zF9 (C:Addr):Rho->Option zAy:=(sqX (zHt C 0 "parts" (zF1 1 (iR1 (zB (b2 (gR 1) (zR 0) ixO) zN)) (gN 2) (zC9 C))) (oX (sq (λρ=>((zJ 1 (iL (λρ=>(zFz C 0 "parts" ρ).bind flV)) (gN 2) (λ_=>some true) (zCI C)) ρ).bind λxs=>zC4 C 0 "at" (.f (.l xs)) ρ) (sq (λρ=>zC4 C 0 "rows" (.f (.tl [])) ρ) (λρ=>(zN ρ).bind λxs=>zC4 C 0 "past" (.f (.l xs)) ρ)))))
noncomputable def zAh (C:Addr) (x:Ob) (ds:List D):Option (Except Nat Ob):=zIm λa=>zTl zNE (zF9 C) a x ds
abbrev zR6:List Str:=["self","one","other"]
noncomputable def zPH (C:Addr):ROo:=(zAA (b1 (rGet C 0 "rows" (λρ=>((zB (gV 1) (zB (gV 2) zN)) ρ).map D.tup) (λρ=>(zN ρ).map D.tup)) zHb))
noncomputable def zH8 (C:Addr) (x:Ob) (ds:List D):Option D:=zIm λa=>zLB zR6 (zPH C) a x ds
abbrev zDq:List Str:=["self","dancer"]
noncomputable def zDr (C:Addr):ROo:=(zAA (b2 (b2 (λρ=>(zFz C 0 "parts" ρ).bind flR) (gR 1) ixO) (b2 (λρ=>(zFz C 0 "at" ρ).bind flR) (gR 1) ixO) ixO))
noncomputable def qA (C:Addr) (x:Ob) (ds:List D):Option D:=zIm λa=>zLB zDq (zDr C) a x ds
noncomputable def zAo (C:Addr):ROd:=(λρ=>((zB (λ_=>some (D.str "tell")) (zB (gV 1) (zB (b2 (gR 2) (zR 1) ixO) (zB (gV 4) zN)))) ρ).map D.tup)
noncomputable def zAp (C:Addr):ROb:=(bB (b2 (λρ=>((zB (gV 4) zN) ρ).map D.tup) (gR 3) eqO))
noncomputable def zAq (C:Addr):ROd:=(λρ=>((zB (λ_=>some (D.str "hear")) (zB (b2 (gR 2) (zR 1) ixO) (zB (gV 1) (zB (gV 4) zN)))) ρ).map D.tup)
abbrev zDs:List Str:=["self","dancer","state","first"]
noncomputable def zCJ (C:Addr):ROo:=(sq (qD 2 (yk C "state_of" 0 (zB (gV 1) zN) (qA C))) (sq (sIf (bB (b2 (b2 (gR 2) (zR 0) ixO) (λ_=>some (D.str "tells")) eqO)) (zHs (zJ 2 (iT (b2 (gR 2) (zR 2) ixO)) (gT 2 (gCs (gN 4) (gCs (gN 5) gNl))) (λ_=>some true) (zAo C))) (λρ=>some (Out.nx ρ))) (sq (sIf (bB (b2 (b2 (gR 2) (zR 0) ixO) (λ_=>some (D.str "hears")) eqO)) (sq (qD 3 (b3S (yk C "row" 0 (zB (b2 (gR 2) (zR 1) ixO) (zB (gV 1) zN)) (zH8 C)) (λ_=>some none) (oI (zR 1)) slD)) (zHs (zJ 2 (iT (b2 (gR 2) (zR 2) ixO)) (gT 2 (gCs (gN 4) (gCs (gN 5) gNl))) (zAp C) (zAq C)))) (λρ=>some (Out.nx ρ))) (zHs zN))))
noncomputable def zBG (C:Addr) (x:Ob) (ds:List D):Option (List D):=zIm λa=>zTk zDs (zCJ C) a x ds
noncomputable def zDA (C:Addr):ROo:=(zTW 1 (zJm C "moves_of" 0 (zB (gV 2) zN) (zBG C)))
abbrev zI9:List Str:=["self","found","dancer"]
noncomputable def zG0 (C:Addr):ROo:=(sq (zAT 1 zN) (sq (zf (iR1 (zB (b1 (λρ=>(zFz C 0 "parts" ρ).bind flR) zEF) zN)) (gN 2) (zDA C)) (zAA (b1 (gR 1) zHb))))
noncomputable def yM (C:Addr) (x:Ob) (ds:List D):Option D:=zIm λa=>zLB zI9 (zG0 C) a x ds
abbrev zBZ:List Str:=["self","move"]
noncomputable def zAI (C:Addr):ROo:=(zAA (zN1 (b2 (gV 1) (yk C "moves" 0 zN (yM C)) inO) (zN1 (λρ=>((zB (b2 (gR 1) (zR 1) ixO) zN) ρ).bind zAJ) (λρ=>((zB (b2 (gR 1) (zR 2) ixO) zN) ρ).bind zAJ))))
noncomputable def qB (C:Addr) (x:Ob) (ds:List D):Option D:=zIm λa=>zLB zBZ (zAI C) a x ds
abbrev zJA:List Str:=["self","dancer","word"]
noncomputable def zFB (C:Addr):ROo:=(zRE C 0 "at" (gV 1) (dIx (b2 (yk C "state_of" 0 (zB (gV 1) zN) (qA C)) (zR 2) ixO) (gV 2)))
noncomputable def zB7 (C:Addr) (x:Ob) (ds:List D):Option Ob:=zIm λa=>runM zJA (zFB C) a x ds
abbrev n_do:List Str:=["self","move","pair"]
noncomputable def zUB (C:Addr):ROo:=(sq (sIf (zQp (zK9 (yk C "can_be_done" 0 (zB (gV 1) zN) (qB C)))) (λ_=>none) (λρ=>some (Out.nx ρ))) (sq (qD 2 (λρ=>((zB (b2 (gR 1) (zR 1) ixO) (zB (b2 (gR 1) (zR 2) ixO) zN)) ρ).map D.tup)) (sq (sIf (bB (b2 (b2 (gR 1) (zR 0) ixO) (λ_=>some (D.str "tell")) eqO)) (sq (zMO C 0 "rows" (gV 2) (b2 (gR 1) (zR 3) ixO)) (zFX C "go_on" 0 (zB (b2 (gR 1) (zR 1) ixO) (zB (b2 (gR 1) (zR 3) ixO) zN)) (zB7 C))) (sq (zMN C 0 "rows" (gV 2)) (zFX C "go_on" 0 (zB (b2 (gR 1) (zR 2) ixO) (zB (b2 (gR 1) (zR 3) ixO) zN)) (zB7 C)))) (zOL C 0 "past" (gV 1)))))
noncomputable def zR7 (C:Addr) (x:Ob) (ds:List D):Option Ob:=zIm λa=>runM n_do (zUB C) a x ds
abbrev zNF:List Str:=["self"]
noncomputable def zNG (C:Addr):ROo:=(zAA (b1 (λρ=>(zFz C 0 "past" ρ).bind flR) zHb))
noncomputable def zGA (C:Addr) (x:Ob) (ds:List D):Option D:=zIm λa=>zLB zNF (zNG C) a x ds
abbrev zDt:List Str:=["_law_dance_here","_law_hall_here"]
noncomputable def qQ (C:Addr):ROo:=(sq (qD 1 (λ_=>some D.non)) (sq (zCP C 1 (zB (gV 0) zN) (zAh C) 0 (qD 1 (λ_=>some D.non))) (zMZ 1)))
noncomputable def yO (C:Addr) (ds:List D):Option Sl:=zSS zDt (qQ C) ds
def kv (q:Str×Int):Key×D:=(.inr q.1,.int q.2)
theorem zJ8:∀ (ch:List (Str×Int)),zFr (ch.map chD)=some (ch.map kv)
 | []=>rfl
 |q::ch=>by simp [zFr,chD,zFq,zJ8 ch,kv]
theorem zPI {kvs:List (Key×D)} {k:Key} {v:D} (h:∀ q∈kvs,q.1≠k):zKd kvs k v=kvs ++ [(k,v)]:=by
 unfold zKd
 rw [zVD]
 simp only [zWw,zWC,not_exists,not_and]
 exact h
theorem zJ9:∀ (ch:List (Str×Int)) (acc:List (Key×D)),(ch.map (·.1)).Pairwise (·≠·)->(∀ q∈ch,∀ a∈acc,a.1≠(kv q).1)->(ch.map kv).foldl (λacc p=>zKd acc p.1 p.2) acc=acc++ch.map kv
 | [],acc,_,_=>by simp
 |q::ch,acc,h,k=>by
  rw [zUc] at h
  obtain ⟨h1,h2⟩:=zUu.mp h
  simp only [zUc,zWK]
  rw [zPI (k q zUd),zJ9 ch _ h2]
  ·simp
  ·intro q' hq' a ha
   rcases zUj.mp ha with ha|ha
   ·exact k q' (zUY _ hq') a ha
   ·simp at ha
    subst ha
    intro e
    have:q.1=q'.1:=by simpa [kv] using e
    exact h1 q'.1 (List.mem_map_of_mem hq') this
theorem zR8 {ch:List (Str×Int)} (h:yf (ch.map (·.1))) (hl:ch.length<=1000):zKe (.tup (ch.map chD))=some (ch.map kv):=by
 unfold zKe
 simp only [zUi]
 rw [zUp (by omega),zJ8]
 simp only [zUx]
 rw [zJ9 ch [] (List.Pairwise.imp (λh=>h.ne) h) (by simp)]
 simp
theorem zP4 (w:Str):∀ (ch:List (Str×Int)),zDa (ch.map kv) (.inr w)=((ch.find? λq=>decide (q.1=w)).map (·.2)).map D.int
 | []=>rfl
 |q::ch=>by
  have ih:=zP4 w ch
  unfold zDa at ih ⊢
  simp only [zUc,zU9]
  by_cases e:q.1=w
  ·simp [kv,e]
  ·have e':¬ (Sum.inr q.1:Key)=Sum.inr w:=λz=>e (by simpa using z)
   simp only [kv,e,e',zV4]
   exact ih
structure Mv where
 t:Bool
 a:Int
 b:Int
 w:Str
deriving DecidableEq
def zFC (t:Bool):Str:=if t then "tell" else "hear"
def mvD (v:Mv):D:=.tup [.str (zFC v.t),.int v.a,.int v.b,.str v.w]
structure Hl where
 P:List (List St)
 at':List Int
 R:List ((Int×Int)×List Str)
 past:List Mv
def rkD (k:Int×Int):List Key:=[.inl k.1,.inl k.2]
def rsD (R:List ((Int×Int)×List Str)):List (List Key×List D):=R.map λq=>(rkD q.1,q.2.map D.str)
def ptD (p:List St):D:=.tup (p.map stD)
def hlO (C:Addr) (h:Hl):Ob:=.ins C [("parts",.v (.lst (h.P.map ptD))),("at",.f (.l (h.at'.map D.int))),("rows",.f (.tl (rsD h.R))),("past",.f (.l (h.past.map mvD)))]
theorem zFD:(Str.ofString "at" == Str.ofString "parts")=false:=by decide +kernel
theorem zDB:(Str.ofString "rows" == Str.ofString "parts")=false:=by decide +kernel
theorem zDC:(Str.ofString "past" == Str.ofString "parts")=false:=by decide +kernel
theorem zGB:(Str.ofString "rows" == Str.ofString "at")=false:=by decide +kernel
theorem zGC:(Str.ofString "past" == Str.ofString "at")=false:=by decide +kernel
theorem zD5:(Str.ofString "past" == Str.ofString "rows")=false:=by decide +kernel
theorem zJB:(Str.ofString "parts" == Str.ofString "at")=false:=by decide +kernel
theorem zG1:(Str.ofString "parts" == Str.ofString "rows")=false:=by decide +kernel
theorem zG2:(Str.ofString "parts" == Str.ofString "past")=false:=by decide +kernel
theorem zKr:(Str.ofString "at" == Str.ofString "rows")=false:=by decide +kernel
theorem zKs:(Str.ofString "at" == Str.ofString "past")=false:=by decide +kernel
theorem zH9:(Str.ofString "rows" == Str.ofString "past")=false:=by decide +kernel
theorem zIA (C:Addr) (h:Hl):zC1 C "parts" (hlO C h)=some (.v (.lst (h.P.map ptD))):=by
 simp only [zC1,hlO,zVU,zUy,zUz]
theorem zNH (C:Addr) (h:Hl):zC1 C "at" (hlO C h)=some (.f (.l (h.at'.map D.int))):=by
 simp only [zC1,hlO,zVU,zUy,zUz,zFD]
theorem zKA (C:Addr) (h:Hl):zC1 C "rows" (hlO C h)=some (.f (.tl (rsD h.R))):=by
 simp only [zC1,hlO,zVU,zUy,zUz,zDB,zGB]
theorem zKB (C:Addr) (h:Hl):zC1 C "past" (hlO C h)=some (.f (.l (h.past.map mvD))):=by
 simp only [zC1,hlO,zVU,zUy,zUz,zDC,zGC,zD5]
theorem zDD (C:Addr) (h:Hl) (m:Str) (h1:(m == Str.ofString "parts")=false) (h2:(m == Str.ofString "at")=false) (h3:(m == Str.ofString "rows")=false) (h4:(m == Str.ofString "past")=false):zBQ C m (hlO C h)=true:=by
 simp only [zBQ,hlO,decide_true,zUy,h1,h2,h3,h4,zW5,Option.isNone_none,Bool.and_self]
theorem zFE (C:Addr) (h:Hl):zBQ C "state_of" (hlO C h)=true:=zDD C h _ (by decide +kernel) (by decide +kernel) (by decide +kernel) (by decide +kernel)
theorem zP5 (C:Addr) (h:Hl):zBQ C "row" (hlO C h)=true:=zDD C h _ (by decide +kernel) (by decide +kernel) (by decide +kernel) (by decide +kernel)
theorem zJC (C:Addr) (h:Hl):zBQ C "moves_of" (hlO C h)=true:=zDD C h _ (by decide +kernel) (by decide +kernel) (by decide +kernel) (by decide +kernel)
theorem zDE (C:Addr) (h:Hl):zBQ C "moves" (hlO C h)=true:=zDD C h _ (by decide +kernel) (by decide +kernel) (by decide +kernel) (by decide +kernel)
theorem zUC (C:Addr) (h:Hl):zBQ C "can_be_done" (hlO C h)=true:=zDD C h _ (by decide +kernel) (by decide +kernel) (by decide +kernel) (by decide +kernel)
theorem zUD (C:Addr) (h:Hl):zBQ C "do" (hlO C h)=true:=zDD C h _ (by decide +kernel) (by decide +kernel) (by decide +kernel) (by decide +kernel)
theorem zKC (C:Addr) (h:Hl):zBQ C "go_on" (hlO C h)=true:=zDD C h _ (by decide +kernel) (by decide +kernel) (by decide +kernel) (by decide +kernel)
theorem zR9 (C:Addr) (h:Hl):zBQ C "done" (hlO C h)=true:=zDD C h _ (by decide +kernel) (by decide +kernel) (by decide +kernel) (by decide +kernel)
structure OkA (n:Nat) (o:Int) (prs:List (Str×Int)):Prop where
 few:prs.length<=18
 rs:yf (prs.map (·.1))
 wd:∀ q∈prs,okW q.1
 nx:∀ q∈prs,0<=q.2/\q.2<(n:Int)
def OkSt (n:Nat):St->Prop
 |.act _ o prs=>OkA n o prs
 |_=>True
structure HOk (k:Nat) (h:Hl):Prop where
 len:h.at'.length=h.P.length
 m4:h.P.length<=4
 inn:∀ (i:Nat) (p:List St) (n:Int),h.P[i]?=some p->h.at'[i]?=some n->0<=n/\n<(p.length:Int)
 st:∀ p∈h.P,∀ s∈p,OkSt p.length s
 rn:h.R.length<=k
 rl:∀ q∈h.R,q.2.length<=k
 pl:h.past.length<=k
def zIB (h:Hl) (i:Nat):Option St:=(h.P[i]?).bind λp=>(h.at'[i]?).bind λn=>p[n.toNat]?
theorem zFF {k:Nat} {h:Hl} (H:HOk k h) {i:Nat} (hi:i<h.P.length):∃ p n s,h.P[i]?=some p/\h.at'[i]?=some n/\p[n.toNat]?=some s/\zIB h i=some s/\(0<=n/\n<(p.length:Int))/\OkSt p.length s:=by
 have e1:h.P[i]?=some h.P[i]:=by simp [hi]
 have hi2:i<h.at'.length:=by rw [H.len];exact hi
 have e2:h.at'[i]?=some h.at'[i]:=by simp [hi2]
 generalize h.P[i]=p at e1
 generalize h.at'[i]=n at e2
 have b:=H.inn i p n e1 e2
 have hn:n.toNat<p.length:=by omega
 have e3:p[n.toNat]?=some p[n.toNat]:=by simp [hn]
 refine ⟨p,n,p[n.toNat],e1,e2,e3,by simp [zIB,e1,e2,e3],b,H.st p (zU3 e1) _ (zWF _)⟩
theorem zNI {k:Nat} {h:Hl} (H:HOk k h) (C:Addr) {i:Nat} {s:St} (hs:zIB h i=some s):qA C (hlO C h) [.int i]=some (stD s):=by
 refine qV λa=>?_
 obtain ⟨p,e1,hs⟩:=zUX.mp hs
 obtain ⟨n,e2,e3⟩:=zUX.mp hs
 have b:=H.inn i p n e1 e2
 have i1:ixO (.lst (h.P.map ptD)) (.int i)=some (ptD p):=zE1 (by simp [e1])
 have i2:ixO (.lst (h.at'.map D.int)) (.int i)=some (.int n):=zE1 (by simp [e2])
 have i3:ixO (ptD p) (.int n)=some (stD s):=by
  have:=zE1 (xs:=p.map stD) (i:=n.toNat) (x:=stD s) (by simp [e3])
  rw [show ((n.toNat:Nat):Int)=n by omega] at this
  exact this
 have f1:=zIA C h
 have f2:=zNH C h
 exists 0,zLB,zDr,zFz,zC0,flR,f1,f2,i1,i2,i3
def yc (h:Hl) (a b:Int):List Str:=((h.R.find? λq=>decide (q.1=(a,b))).map (·.2)).getD []
theorem zP6 {k k':Int×Int}:rkD k=rkD k'↔k=k':=by
 obtain ⟨a,b⟩:=k;obtain ⟨a',b'⟩:=k';simp [rkD]
theorem zKD (k:Int×Int):∀ R:List ((Int×Int)×List Str),zA5 (rsD R) (rkD k)=((R.find? λq=>decide (q.1=k)).map (·.2)).map (List.map D.str)
 | []=>rfl
 |q::R=>by
  have ih:=zKD k R
  unfold zA5 rsD at ih ⊢
  rw [zUc,zU9,zU9]
  by_cases e:q.1=k
  ·simp [e]
  ·have e1:¬ rkD q.1=rkD k:=λz=>e (zP6.mp z)
   simp only [e1,e,zV4]
   exact ih
theorem zNJ (C:Addr) (h:Hl) (a b:Int):zH8 C (hlO C h) [.int a,.int b]=some (.tup ((yc h a b).map D.str)):=by
 refine qV λad=>?_
 have f1:=zKA C h
 have g:=zKD (a,b) h.R
 have kt:zMM (.tup [.int a,.int b])=some (rkD (a,b)):=rfl
 unfold yc
 cases e:h.R.find? λq=>decide (q.1=(a,b)) with
 |none=>
  rw [e] at g
  exists 0,zLB,zPH,rGet,zFz,zC0,f1,kt,g,Option.getD_none
 |some q=>
  rw [e] at g
  exists 0,zLB,zPH,rGet,zFz,zC0,f1,kt,g,Option.getD_some
theorem qJ {C:Addr} {m:Str} {i:Nat} {fl:ROl} {F:Ob->List D->Option D} {ρ:Rho} {x:Ob} {ds:List D} {r:D} (h1:zC0 ρ i=some x) (h2:zBQ C m x=true) (h3:fl ρ=some ds) (h4:F x ds=some r):yk C m i fl F ρ=some r:=by
 unfold yk;rw [h1,zUb,zUp h2,h3,zUb,h4]
theorem zNK {C:Addr} {m:Str} {i:Nat} {fl:ROl} {F:Ob->List D->Option (List D)} {ρ:Rho} {x:Ob} {ds r:List D} (h1:zC0 ρ i=some x) (h2:zBQ C m x=true) (h3:fl ρ=some ds) (h4:F x ds=some r):zJm C m i fl F ρ=some r:=by
 unfold zJm;rw [h1,zUb,zUp h2,h3,zUb,h4]
def zCM (h:Hl) (i:Nat):List Mv:=match zIB h i with
 |some (.act true o prs)=>prs.map λq=>⟨true,i,o,q.1⟩
 |some (.act false o prs)=>(prs.filter λq=>decide ([q.1]=(yc h o i).take 1)).map λq=>⟨false,o,i,q.1⟩
 |_=>[]
theorem st_i0 (t:Bool) (o:Int) (prs:List (Str×Int)):ixO (stD (.act t o prs)) (.int 0)=some (.str (if t then "tells" else "hears")):=by simp only [stD,ixO,at0]
theorem zSA (t:Bool) (o:Int) (prs:List (Str×Int)):ixO (stD (.act t o prs)) (.int 1)=some (.int o):=by simp only [stD,ixO,at1]
theorem zUE (t:Bool) (o:Int) (prs:List (Str×Int)):ixO (stD (.act t o prs)) (.int 2)=some (.tup (prs.map chD)):=by simp only [stD,ixO,at2]
theorem zGD (a b:Str):eqO (.str a) (.str b)=some (.bl (a == b)):=by unfold eqO;rw [zUp (by simp [dep])];unfold eqD;rfl
theorem s_rt:((Str.ofString "rests" : Str) == Str.ofString "tells")=false:=by decide +kernel
theorem s_rh:((Str.ofString "rests" : Str) == Str.ofString "hears")=false:=by decide +kernel
theorem zKt (l:List Str):zj (l.map D.str) none (some 1)=(l.take 1).map D.str:=by
 cases l with
 |nil=>rfl
 |cons a l=>
  have:¬ ((1:Int)<0):=by decide
  simp [zj,HT.sIx]
theorem zUF (w:Str) (l:List Str):eqO (.tup [.str w]) (.tup ((l.take 1).map D.str))=some (.bl (decide ([w]=l.take 1))):=by
 have:=zGp [w] (l.take 1)
 unfold eqO
 rw [zUp (by simp [dep,depL])]
 unfold eqD
 rw [show [D.str w] = [w].map D.str from rfl,this]
theorem zNL (C:Addr) (i:Nat) (o:Int) (prs:List (Str×Int)) (x s3:Sl) (a:Addr):zP (gT 2 (gCs (gN 4) (gCs (gN 5) gNl))) (λ_=>some true) (zAo C) (prs.map chD) [x,.v (.int i),.v (stD (.act true o prs)),s3,.un,.un]=some ((prs.map λq=>(⟨true,i,o,q.1⟩:Mv)).map mvD):=by
 have i1:=zSA true o prs
 have:=z9 (g:=gT 2 (gCs (gN 4) (gCs (gN 5) gNl))) (p:=λ_=>some true) (f:=zAo C) (emb:=chD) (ρ:=[x,.v (.int i),.v (stD (.act true o prs)),s3,.un,.un]) (λ_=>true) (λq=>mvD ⟨true,i,o,q.1⟩) prs λq _=>by
  refine ⟨[x,.v (.int i),.v (stD (.act true o prs)),s3,.v (.str q.1),.v (.int q.2)],rfl,rfl,λ_=>?_⟩
  exists 0,zAo,mvD,zFC,i1
 rw [this,zVn.mpr (by simp),zVa]
 rfl
theorem zNM (C:Addr) (i:Nat) (o:Int) (prs:List (Str×Int)) (l:List Str) (x:Sl):zP (gT 2 (gCs (gN 4) (gCs (gN 5) gNl))) (zAp C) (zAq C) (prs.map chD) [x,.v (.int i),.v (stD (.act false o prs)),.v (.tup ((l.take 1).map D.str)),.un,.un]=some (((prs.filter λq=>decide ([q.1]=l.take 1)).map λq=>(⟨false,o,i,q.1⟩:Mv)).map mvD):=by
 have i1:=zSA false o prs
 have:=z9 (g:=gT 2 (gCs (gN 4) (gCs (gN 5) gNl))) (p:=zAp C) (f:=zAq C) (emb:=chD) (ρ:=[x,.v (.int i),.v (stD (.act false o prs)),.v (.tup ((l.take 1).map D.str)),.un,.un]) (λq=>decide ([q.1]=l.take 1)) (λq=>mvD ⟨false,o,i,q.1⟩) prs λq _=>by
  refine ⟨[x,.v (.int i),.v (stD (.act false o prs)),.v (.tup ((l.take 1).map D.str)),.v (.str q.1),.v (.int q.2)],rfl,?_,λ_=>?_⟩
  ·have e:=zUF q.1 l
   exists zAp,e,zP,gN,gT,gCs,gNl,zj,zc,neO,zV,isO
  ·exists 0,zAq,mvD,zFC,i1
 rw [this,zVa]
 rfl
theorem zPJ {k:Nat} {h:Hl} (H:HOk k h) (C:Addr) {i:Nat} (hi:i<h.P.length):zBG C (hlO C h) [.int i]=some ((zCM h i).map mvD):=by
 refine qV λa=>?_
 obtain ⟨p,n,s,e1,e2,e3,es,b,ok⟩:=zFF H hi
 have ms:=zNI H C es
 have st1:qD 2 (yk C "state_of" 0 (zB (gV 1) zN) (qA C)) [.b a (hlO C h),.v (.int i),.un,.un]=some (.nx [.b a (hlO C h),.v (.int i),.v (stD s),.un]):=
  (zBV (qJ rfl (zFE C h) rfl ms)).trans rfl
 show (zCJ C [.b a (hlO C h),.v (.int i),.un,.un]).bind zKi=_
 unfold zCJ zCM
 rw [zt st1,es]
 generalize hO:hlO C h=O at *
 cases s with
 |fin=>
  have i0:ixO (stD .fin) (.int 0)=some (.str "end"):=by simp only [stD,ixO,at0]
  exists zKi,zHs,i0,zGD,s_et,s_eh,zP,gN,gT,gCs,gNl,zj,zc,neO,zV,isO
 |rests=>
  have i0:ixO (stD .rests) (.int 0)=some (.str "rests"):=by simp only [stD,ixO,at0]
  exists zKi,zHs,i0,zGD,s_rt,s_rh,zP,gN,gT,gCs,gNl,zj,zc,neO,zV,isO
 |act t o prs=>
  have i0:=st_i0 t o prs
  have i1:=zSA t o prs
  have i2:=zUE t o prs
  have fw:prs.length<=1000000:=by have:=(ok:OkA _ _ _).few;omega
  cases t with
  |true=>
   have cp:=zNL C i o prs (.b a O) .un a
   simp only [zVU] at i0
   exists zKi,zHs,i0,i2,zGD,zUz,cp,fw,zj,zc,neO,zV,isO
  |false=>
   have cp:=zNM C i o prs (yc h o i) (.b a O)
   have i0':ixO (stD (.act false o prs)) (.int 0)=some (.str "hears"):=i0
   have mr:yk C "row" 0 (zB (b2 (gR 2) (zR 1) ixO) (zB (gV 1) zN)) (zH8 C) [.b a O,.v (.int i),.v (stD (.act false o prs)),.un]=some (.tup ((yc h o i).map D.str)):=by
    subst hO
    refine qJ (ds:=[.int o,.int i]) rfl (zP5 C h) ?_ (zNJ C h o i)
    exists 0,i1
   have tk1:=zKt (yc h o i)
   generalize yk C "row" 0 (zB (b2 (gR 2) (zR 1) ixO) (zB (gV 1) zN)) (zH8 C)=f1 at mr ⊢
   exists zKi,zHs,i0',i2,zGD,s_ht,zUz,mr,tk1,cp,fw,zc,neO,zV,isO
def mvs (h:Hl):List Mv:=(List.range h.P.length).flatMap (zCM h)
theorem zIC {k:Nat} {h:Hl} (H:HOk k h) (i:Nat):(zCM h i).length<=18:=by
 by_cases hi:i<h.P.length
 ·obtain ⟨p,n,s,e1,e2,e3,es,b,ok⟩:=zFF H hi
  unfold zCM
  rw [es]
  cases s with
  |fin=>simp
  |rests=>simp
  |act t o prs=>
   have:=(ok:OkA _ _ _).few
   cases t with
   |true=>simpa using this
   |false=>simp only [zUi];exact zVF (zWr ..) this
 ·have:h.P[i]?=none:=by simp;omega
  simp [zCM,zIB,this]
theorem zGE {k:Nat} {h:Hl} (H:HOk k h) (C:Addr) (a:Addr):∀ (is:List Nat) (acc:List Mv) (s2:Sl),(∀ i∈is,i<h.P.length)->acc.length+18*is.length<=1000->∃ s2',zc (gN 2) (zDA C) (is.map λ(i:Nat)=>D.int (0+(i:Int))) [.b a (hlO C h),.l (acc.map mvD),s2]=some (.nx [.b a (hlO C h),.l ((acc++is.flatMap (zCM h)).map mvD),s2'])
 | [],acc,s2,_,_=>⟨s2,by simp [zc]⟩
 |i::is,acc,s2,hi,hl=>by
  have hi0:=hi i zUd
  have l1:=zIC H i
  rw [zUa] at hl
  obtain ⟨s2',ih⟩:=zGE H C a is (acc++zCM h i) (.v (.int (0+(i:Int)))) (λj hj=>hi j (zUY _ hj)) (by rw [zUr];omega)
  refine ⟨s2',?_⟩
  have mm:=zPJ H C hi0
  have st:zDA C [.b a (hlO C h),.l (acc.map mvD),.v (.int (0+(i:Int)))]=some (.nx [.b a (hlO C h),.l ((acc++zCM h i).map mvD),.v (.int (0+(i:Int)))]):=by
   have e:=zNK (C:=C) (m:="moves_of") (i:=0) (fl:=zB (gV 2) zN) (F:=zBG C) (ρ:=[.b a (hlO C h),.l (acc.map mvD),.v (.int (0+(i:Int)))]) rfl (zJC C h) rfl (by rw [zWq];exact mm)
   unfold zDA zTW
   have q:acc.length+(zCM h i).length<=1000000:=by omega
   simp only [gL,zVB,zUv,zUb,e,zUi,zUp q,zWb,zVt,zUw]
  rw [zUc,zDk (ρ1:=[.b a (hlO C h),.l (acc.map mvD),.v (.int (0+(i:Int)))]) rfl st,ih,zVI,zVZ]
theorem zNN {k:Nat} {h:Hl} (H:HOk k h) (C:Addr):yM C (hlO C h) []=some (.tup ((mvs h).map mvD)):=by
 refine qV λa=>?_
 have m4:=H.m4
 obtain ⟨s2',e⟩:=zGE H C a (List.range h.P.length) [] .un (λi hi=>zVy.mp hi) (by simp;omega)
 rw [zVq,zVh] at e
 have f1:=zIA C h
 show (zG0 C [.b a (hlO C h),.un,.un]).bind _=_
 unfold zG0
 rw [zt (ρ':=[.b a (hlO C h),.l [],.un]) rfl,zt ((zAz (zF5 (n:=h.P.length) ?_ (by omega))).trans e)]
 ·rfl
 ·exists 0,zFz,zC0,flR,f1
theorem zPK (C:Addr) (h:Hl):zGA C (hlO C h) []=some (.tup (h.past.map mvD)):=by
 refine qV λa=>?_
 have f1:=zKB C h
 exists 0,zLB,zNG,zFz,zC0,flR,f1
theorem zFG:∀ a b:Bool,(zFC a == zFC b)=decide (a=b):=by
 have a:((Str.ofString "tell" : Str) == Str.ofString "hear")=false:=by decide +kernel
 have b:((Str.ofString "hear" : Str) == Str.ofString "tell")=false:=by decide +kernel
 intro x y
 cases x<;>cases y<;>simp [zFC,a,b]
theorem eq_mv (u v:Mv):eqD (mvD u) (mvD v)=decide (u=v):=by
 obtain ⟨t,a,b,w⟩:=u
 obtain ⟨t',a',b',w'⟩:=v
 simp only [mvD,eqD,eqL,zFG,zDm,Bool.and_true,Mv.mk.injEq]
 by_cases h1:t=t'<;>by_cases h2:a=a'<;>by_cases h3:b=b'<;>by_cases h4:w=w'<;>simp [h1,h2,h3,h4]
theorem zP7 (v:Mv):dep (mvD v)<=20:=by simp only [mvD,dep,depL];omega
theorem zUG (v:Mv) (l:List Mv):inO (mvD v) (.tup (l.map mvD))=some (.bl (decide (v∈l))):=by
 unfold inO
 rw [zUp (zP7 v)]
 simp only [List.any_map,Function.comp_def,eq_mv]
 congr 2
 by_cases h:v∈l
 ·rw [zVk h,zWw];exact ⟨v,h,by simp⟩
 ·rw [zVH h,List.any_eq_false];intro u hu z;simp at z;exact h (z ▸ hu)
theorem zID (n:Int):zAJ [.int n]=some (.bl true):=by
 exists 0,zAJ,zDp,zTZ,zTY,tyD,ixO
 rfl
theorem zUH (v:Mv):ixO (mvD v) (.int 0)=some (.str (zFC v.t)):=by simp only [mvD,ixO,at0]
theorem zSB (v:Mv):ixO (mvD v) (.int 1)=some (.int v.a):=by simp only [mvD,ixO,at1]
theorem zSC (v:Mv):ixO (mvD v) (.int 2)=some (.int v.b):=by simp only [mvD,ixO,at2]
theorem mv_i3 (v:Mv):ixO (mvD v) (.int 3)=some (.str v.w):=by simp only [mvD,ixO,at3]
theorem m_can {k:Nat} {h:Hl} (H:HOk k h) (C:Addr) (v:Mv):qB C (hlO C h) [mvD v]=some (.bl (decide (v∈mvs h))):=by
 refine qV λa=>?_
 have mm:yk C "moves" 0 zN (yM C) [.b a (hlO C h),.v (mvD v)]=some (.tup ((mvs h).map mvD)):=qJ rfl (zDE C h) rfl (zNN H C)
 have im:=zUG v (mvs h)
 have i1:=zSB v
 have i2:=zSC v
 have w1:=zID v.a
 have w2:=zID v.b
 show (zAI C [.b a (hlO C h),.v (mvD v)]).bind _=_
 unfold zAI
 generalize yk C "moves" 0 zN (yM C)=f1 at mm ⊢
 generalize hO:hlO C h=O at mm ⊢
 cases e:decide (v∈mvs h) with
 |true=>
  rw [e] at im
  exists 0,mm,im,i1,i2,w1,w2
 |false=>
  rw [e] at im
  exists 0,mm,im,i1,i2,w1,w2
abbrev fl4 (a b c d:Fl):List (Str×Fl):=[(Str.ofString "parts",a),(Str.ofString "at",b),(Str.ofString "rows",c),(Str.ofString "past",d)]
def qz (h:Hl) (i:Nat) (w:Str):Option Int:=match zIB h i with
 |some (.act _ _ prs)=>(prs.find? λq=>decide (q.1=w)).map (·.2)
 |_=>none
theorem zSD {n i:Nat} (h:i<n):ixN n (i:Int)=some i:=by unfold ixN;rw [zUp (by omega),zUp (by omega)];simp
theorem zUI (C:Addr) (h:Hl) (xs:List Int):qa "at" (.f (.l (xs.map D.int))) (fl4 (.v (.lst (h.P.map ptD))) (.f (.l (h.at'.map D.int))) (.f (.tl (rsD h.R))) (.f (.l (h.past.map mvD))))=(fl4 (.v (.lst (h.P.map ptD))) (.f (.l (xs.map D.int))) (.f (.tl (rsD h.R))) (.f (.l (h.past.map mvD)))):=by
 simp only [fl4,qa,zJB,zUz,zVU,zVN,zVg]
theorem zPL (C:Addr) (h:Hl) (y:Fd):qa "rows" (.f y) (fl4 (.v (.lst (h.P.map ptD))) (.f (.l (h.at'.map D.int))) (.f (.tl (rsD h.R))) (.f (.l (h.past.map mvD))))=(fl4 (.v (.lst (h.P.map ptD))) (.f (.l (h.at'.map D.int))) (.f y) (.f (.l (h.past.map mvD)))):=by
 simp only [fl4,qa,zG1,zKr,zUz,zVU,zVN,zVg]
theorem zPM (C:Addr) (h:Hl) (y:Fd):qa "past" (.f y) (fl4 (.v (.lst (h.P.map ptD))) (.f (.l (h.at'.map D.int))) (.f (.tl (rsD h.R))) (.f (.l (h.past.map mvD))))=(fl4 (.v (.lst (h.P.map ptD))) (.f (.l (h.at'.map D.int))) (.f (.tl (rsD h.R))) (.f y)):=by
 simp only [fl4,qa,zG2,zKs,zH9,zUz,zVU,zVN,zVg]
theorem zNO {C:Addr} {h:Hl} {f:Str} {y:Fd} {ρ:Rho} {i:Nat} {c:Option Addr} (e:ρ[i]?=some (.o c (hlO C h))) (hf:zC1 C f (hlO C h)=some (.f y)):zHp C i f ρ=some (c,(fl4 (.v (.lst (h.P.map ptD))) (.f (.l (h.at'.map D.int))) (.f (.tl (rsD h.R))) (.f (.l (h.past.map mvD)))),y):=by
 unfold zHp
 rw [e]
 simp only [zC1,hlO,zVU] at hf ⊢
 rw [hf]
theorem zUJ {k:Nat} {h:Hl} (H:HOk k h) (C:Addr) {i:Nat} {w:Str} {n:Int} (hn:qz h i w=some n):zB7 C (hlO C h) [.int i,.str w]=some (hlO C { h with at':=h.at'.set i n }):=by
 refine qV λa=>?_
 have hi:i<h.P.length:=by
  unfold qz zIB at hn
  by_cases q:i<h.P.length
  ·exact q
  ·have:h.P[i]?=none:=by simp;omega
   rw [this] at hn;simp at hn
 obtain ⟨p,n',s,e1,e2,e3,es,b,ok⟩:=zFF H hi
 unfold qz at hn
 rw [es] at hn
 cases s with
 |fin=>simp at hn
 |rests=>simp at hn
 |act t o prs=>
  have ok:OkA _ _ _:=ok
  simp only at hn
  have ms:=zNI H C es
  have sm:yk C "state_of" 0 (zB (gV 1) zN) (qA C) [.o (some a) (hlO C h),.v (.int i),.v (.str w)]=some (stD (.act t o prs)):=qJ rfl (zFE C h) rfl ms
  have dc:=zR8 ok.rs (by have:=ok.few;omega)
  have gc:=zP4 w prs
  rw [hn] at gc
  have of:=zNO (C:=C) (h:=h) (f:="at") (ρ:=[.o (some a) (hlO C h),.v (.int i),.v (.str w)]) (i:=0) (c:=some a) rfl (zNH C h)
  have ix:=zSD (n:=(h.at'.map D.int).length) (i:=i) (by rw [zUi,H.len];exact hi)
  have i2:=zUE t o prs
  have d1:dIx (b2 (yk C "state_of" 0 (zB (gV 1) zN) (qA C)) (zR 2) ixO) (gV 2) [.o (some a) (hlO C h),.v (.int i),.v (.str w)]=some (.int n):=by
   unfold dIx b2
   rw [sm,zUb,zUb,i2,zUb,dc,zUb]
   exact gc
  have st:zFB C [.o (some a) (hlO C h),.v (.int i),.v (.str w)]=some (.nx [.o (some a) (hlO C { h with at':=h.at'.set i n }),.v (.int i),.v (.str w)]):=by
   unfold zFB zRE
   rw [d1,zUb,of,zUb]
   simp only [zNd,zVB,zUv,zUb,ix,zUx,zEp,zVt]
   have sa:=zUI C h (h.at'.set i n)
   rw [List.map_set] at sa
   rw [sa]
   simp only [hlO,List.map_set]
  show (zFB C [.o (some a) (hlO C h),.v (.int i),.v (.str w)]).bind _=_
  rw [st]
  simp only [zUb,zD3,zUv,zVU]
def zIO (k:Int×Int) (f:List Str->List Str):List ((Int×Int)×List Str)->List ((Int×Int)×List Str)
 | []=>[]
 |q::r=>if q.1=k then (q.1,f q.2)::r else q::zIO k f r
def zNP (k:Int×Int) (w:Str) (R:List ((Int×Int)×List Str)):List ((Int×Int)×List Str):=match R.find? λq=>decide (q.1=k) with
 |some _=>zIO k (· ++ [w]) R
 |none=>R ++ [(k,[w])]
theorem zNQ {k:Int×Int} {f:List Str->List Str} {xs:List Str}:∀ {R:List ((Int×Int)×List Str)},((R.find? λq=>decide (q.1=k)).map (·.2))=some xs->zCh (rkD k) ((f xs).map D.str) (rsD R)=rsD (zIO k f R)
 | [],h=>by simp at h
 |q::R,h=>by
  rw [zU9] at h
  by_cases e:q.1=k
  ·simp only [e,decide_true,zUx,zWN] at h
   simp only [rsD,zUc,zCh,zIO,e,zVU,h]
  ·simp only [e,zV4] at h
   have e1:¬ rkD q.1=rkD k:=λz=>e (zP6.mp z)
   have ih:=zNQ (f:=f) (R:=R) h
   simp only [rsD] at ih
   simp only [rsD,zUc,zCh,zIO,e,e1,zVg,ih]
theorem zG3 (k:Int×Int) (f:List Str->List Str):∀ R:List ((Int×Int)×List Str),(zIO k f R).length=R.length
 | []=>rfl
 |q::R=>by unfold zIO;split<;>simp [zG3 k f R]
theorem zG4 {k:Int×Int} {f:List Str->List Str}:∀ {R:List ((Int×Int)×List Str)} {q:(Int×Int)×List Str},q∈zIO k f R->q∈R\/∃ q'∈R,q=(q'.1,f q'.2)
 | [],q,h=>by simp [zIO] at h
 |r::R,q,h=>by
  unfold zIO at h
  split at h
  ·rcases zUg.mp h with rfl|h
   ·exact .inr ⟨r,zUd,rfl⟩
   ·exact .inl (zUY _ h)
  ·rcases zUg.mp h with rfl|h
   ·exact .inl zUd
   ·rcases zG4 h with h|⟨q',h',e⟩
    ·exact .inl (zUY _ h)
    ·exact .inr ⟨q',zUY _ h',e⟩
theorem zFH {k k':Int×Int} {f:List Str->List Str}:∀ R:List ((Int×Int)×List Str),((zIO k f R).find? λq=>decide (q.1=k')).map (·.2)=((R.find? λq=>decide (q.1=k')).map (·.2)).map λxs=>if k'=k then f xs else xs
 | []=>rfl
 |r::R=>by
  have ih:=zFH (k:=k) (k':=k') (f:=f) R
  unfold zIO
  by_cases e:r.1=k
  ·rw [zUp e,zU9,zU9]
   by_cases e':r.1=k'
   ·simp [e',e'.symm.trans e]
   ·have:¬ k'=k:=λz=>e' (e.trans z.symm)
    simp [e',this]
    rfl
  ·rw [zVD e,zU9,zU9]
   by_cases e':r.1=k'
   ·have:¬ k'=k:=λz=>e (e'.trans z)
    simp [e',this]
   ·simp only [e',zV4];exact ih
theorem zUK {k:Int×Int} {w:Str} {R:List ((Int×Int)×List Str)}:(match zA5 (rsD R) (rkD k) with
  |some xs=>zCh (rkD k) (xs ++ [.str w]) (rsD R)
  |none=>rsD R ++ [(rkD k,[.str w])])=rsD (zNP k w R):=by
 rw [zKD]
 unfold zNP
 cases e:R.find? λq=>decide (q.1=k) with
 |none=>simp [rsD]
 |some q=>
  have:=zNQ (k:=k) (f:=(· ++ [w])) (xs:=q.2) (R:=R) (by rw [e];rfl)
  simpa using this
theorem zNR (h:Hl) (k:Int×Int) (w:Str) (a b:Int):yc { h with R:=zNP k w h.R } a b=if (a,b)=k then yc h a b ++ [w] else yc h a b:=by
 unfold yc zNP
 cases e:h.R.find? λq=>decide (q.1=k) with
 |none=>
  simp only [List.find?_append]
  by_cases c:(a,b)=k
  ·rw [c,e];simp
  ·have:¬ k=(a,b):=λz=>c z.symm
   simp [c,this]
 |some q=>
  simp only
  rw [zFH]
  by_cases c:(a,b)=k
  ·rw [c,e];simp
  ·simp [c]
   rfl
theorem zNS (h:Hl) (k:Int×Int) (a b:Int):yc { h with R:=zIO k List.tail h.R } a b=if (a,b)=k then (yc h a b).tail else yc h a b:=by
 unfold yc
 simp only
 rw [zFH]
 by_cases c:(a,b)=k
 ·simp only [c,zVU]
  cases h.R.find? λq=>decide (q.1=k) with
  |none=>rfl
  |some q=>rfl
 ·simp only [c,zVg]
  cases h.R.find? λq=>decide (q.1=(a,b)) with
  |none=>rfl
  |some q=>rfl
theorem app_len (k:Int×Int) (w:Str) (R:List ((Int×Int)×List Str)):(zNP k w R).length<=R.length+1:=by
 unfold zNP;split
 ·rw [zG3];omega
 ·simp
theorem zSE {k:Int×Int} {w:Str} {R:List ((Int×Int)×List Str)} {q:(Int×Int)×List Str} (h:q∈zNP k w R):q∈R\/(∃ q'∈R,q.2.length=q'.2.length+1)\/q.2.length=1:=by
 unfold zNP at h;split at h
 ·rcases zG4 h with h|⟨q',h',e⟩
  ·exact .inl h
  ·exact .inr (.inl ⟨q',h',by rw [e];simp⟩)
 ·rcases zUj.mp h with h|h
  ·exact .inl h
  ·simp at h;subst h;exact .inr (.inr rfl)
def Mv.who (v:Mv):Nat:=(if v.t then v.a else v.b).toNat
def qR (v:Mv) (R:List ((Int×Int)×List Str)):List ((Int×Int)×List Str):=if v.t then zNP (v.a,v.b) v.w R else zIO (v.a,v.b) List.tail R
def doM (h:Hl) (v:Mv) (n:Int):Hl:=⟨h.P,h.at'.set v.who n,qR v h.R,h.past ++ [v]⟩
theorem zDu {k:Nat} {h:Hl} (H:HOk k h) {v:Mv} (hv:v∈mvs h):∃ o prs n,v.who<h.P.length/\zIB h v.who=some (.act v.t o prs)/\(v.w,n)∈prs/\qz h v.who v.w=some n /\
  (if v.t=true then v.a=(v.who:Int)/\v.b=o else v.b=(v.who:Int)/\v.a=o/\[v.w]=(yc h v.a v.b).take 1):=by
 obtain ⟨i,hi,hm⟩:=zVv.mp hv
 have hi:=zVy.mp hi
 obtain ⟨p,n',s,e1,e2,e3,es,b,ok⟩:=zFF H hi
 have nx:∀ (t:Bool) (o:Int) (prs:List (Str×Int)) (q:Str×Int),s = .act t o prs->q∈prs->qz h i q.1=some q.2:=λt o prs q hs hq=>by
  subst hs
  have ok:OkA _ _ _:=ok
  unfold qz
  rw [es]
  simp only
  have nd:(prs.map (·.1)).Pairwise (·≠·):=ok.rs.imp λh=>h.ne
  have:∀ (l:List (Str×Int)),(l.map (·.1)).Pairwise (·≠·)->q∈l->(l.find? λx=>decide (x.1=q.1)).map (·.2)=some q.2:=by
   intro l
   induction l with
   |nil=>intro _ h;simp at h
   |cons x l ih=>
    intro hp hq
    rw [zUc] at hp
    obtain ⟨h1,h2⟩:=zUu.mp hp
    rw [zU9]
    rcases zUg.mp hq with rfl|hq
    ·simp
    ·have:x.1≠q.1:=h1 q.1 (List.mem_map_of_mem hq)
     simp only [this,zV4]
     exact ih h2 hq
  exact this prs nd hq
 unfold zCM at hm
 rw [es] at hm
 cases s with
 |fin=>simp at hm
 |rests=>simp at hm
 |act t o prs=>
  cases t with
  |true=>
   simp only at hm
   obtain ⟨q,hq,rfl⟩:=zVA.mp hm
   refine ⟨o,prs,q.2,?_⟩
   simp only [Mv.who,zVU,zWi]
   exact ⟨hi,es,hq,nx true o prs q rfl hq,by simp⟩
  |false=>
   simp only at hm
   obtain ⟨q,hq,rfl⟩:=zVA.mp hm
   obtain ⟨hq,hr⟩:=zVr.mp hq
   refine ⟨o,prs,q.2,?_⟩
   simp only [Mv.who,zVN,zVg,zWi]
   exact ⟨hi,es,hq,nx false o prs q rfl hq,by simpa using hr⟩
theorem zEL {C:Addr} {m:Str} {i:Nat} {fl:ROl} {F:Ob->List D->Option Ob} {ρ:Rho} {c:Option Addr} {x x':Ob} {ds:List D} (h1:ρ[i]?=some (.o c x)) (h2:zBQ C m x=true) (h3:fl ρ=some ds) (h4:F x ds=some x'):zFX C m i fl F ρ=some (.nx (ρ.set i (.o c x'))):=by
 unfold zFX;rw [h1];simp only [h2,zVU,h3,zUb,h4,zUx]
theorem HOk.rows {k k':Nat} {h:Hl} (H:HOk k h) {R:List ((Int×Int)×List Str)} (hk:k<=k') (h1:R.length<=k') (h2:∀ q∈R,q.2.length<=k'):HOk k' { h with R:=R }:=
 ⟨H.len,H.m4,H.inn,H.st,h1,h2,zVF H.pl hk⟩
theorem zIE {k:Nat} {h:Hl} (H:HOk k h) (v:Mv):(qR v h.R).length<=k+1/\∀ q∈qR v h.R,q.2.length<=k+1:=by
 have h1:=H.rn
 have h2:=H.rl
 unfold qR
 split
 ·refine ⟨zVF (app_len ..) (by omega),λq hq=>?_⟩
  rcases zSE hq with hq|⟨q',hq',e⟩|e
  ·have:=h2 q hq;omega
  ·have:=h2 q' hq';omega
  ·omega
 ·refine ⟨by rw [zG3];omega,λq hq=>?_⟩
  rcases zG4 hq with hq|⟨q',hq',e⟩
  ·have:=h2 q hq;omega
  ·have:=h2 q' hq'
   rw [e]
   simp only [List.length_tail];omega
theorem zP8 {k:Nat} {h:Hl} (H:HOk k h) {v:Mv} {o n:Int} {prs:List (Str×Int)} (hs:zIB h v.who=some (.act v.t o prs)) (hn:(v.w,n)∈prs):HOk (k+1) (doM h v n):=by
 obtain ⟨r1,r2⟩:=zIE H v
 have hl:=H.pl
 refine ⟨by simp [doM,H.len],H.m4,λi p n' e1 e2=>?_,H.st,r1,r2,by simp [doM];omega⟩
 simp only [doM] at e1 e2
 by_cases c:v.who=i
 ·subst c
  have hlt:v.who<h.at'.length:=by
   have:=(zUs.mp e2).1
   simpa using this
  rw [zVG hlt] at e2
  cases e2
  obtain ⟨p',n0,s,a1,a2,a3,a4,a5,a6⟩:=zFF H (i:=v.who) (by rw [<- H.len];exact hlt)
  rw [e1] at a1;cases a1
  rw [hs] at a4;cases a4
  exact (a6:OkA _ _ _).nx _ hn
 ·rw [zU2 c] at e2
  exact H.inn i p n' e1 e2
theorem zUL {k:Nat} {h:Hl} (H:HOk k h) (hk:k<=1000) (C:Addr) {v:Mv} (hv:v∈mvs h):∃ n o prs,v.who<h.P.length/\zIB h v.who=some (.act v.t o prs)/\(v.w,n)∈prs/\qz h v.who v.w=some n/\zR7 C (hlO C h) [mvD v]=some (hlO C (doM h v n)):=by
 obtain ⟨o,prs,n,w1,w2,w3,w4,w5⟩:=zDu H hv
 refine ⟨n,o,prs,w1,w2,w3,w4,qV λa=>?_⟩
 have r1:=H.rn
 have r2:=H.rl
 have r3:=H.pl
 have mc:=m_can H C v
 rw [zVk hv] at mc
 have i0:=zUH v
 have i1:=zSB v
 have i2:=zSC v
 have i3:=mv_i3 v
 have b1':yk C "can_be_done" 0 (zB (gV 1) zN) (qB C) [.o (some a) (hlO C h),.v (mvD v),.un]=some (.bl true):=qJ rfl (zUC C h) rfl mc
 have s1:(sIf (zQp (zK9 (yk C "can_be_done" 0 (zB (gV 1) zN) (qB C)))) (λ_=>none) (λρ=>some (Out.nx ρ))) [.o (some a) (hlO C h),.v (mvD v),.un]=some (.nx [.o (some a) (hlO C h),.v (mvD v),.un]):=by
  unfold sIf zQp zK9
  rw [b1']
  rfl
 have s2:qD 2 (λρ=>((zB (b2 (gR 1) (zR 1) ixO) (zB (b2 (gR 1) (zR 2) ixO) zN)) ρ).map D.tup) [.o (some a) (hlO C h),.v (mvD v),.un]=some (.nx [.o (some a) (hlO C h),.v (mvD v),.v (.tup [.int v.a,.int v.b])]):=by
  refine (zBV (d:=.tup [.int v.a,.int v.b]) ?_).trans rfl
  exists 0,i1,i2
 have kt:zMM (.tup [.int v.a,.int v.b])=some (rkD (v.a,v.b)):=rfl
 obtain ⟨y1,y2⟩:=zIE H v
 have H1:HOk (k+1) { h with R:=qR v h.R }:=H.rows (by omega) y1 y2
 have of:=zNO (C:=C) (h:=h) (f:="rows") (ρ:=[.o (some a) (hlO C h),.v (mvD v),.v (.tup [.int v.a,.int v.b])]) (i:=0) (c:=some a) rfl (zKA C h)
 have gr:=zKD (v.a,v.b) h.R
 have pf:∀ y ρ',zEp C 0 "rows" (some a) (fl4 (.v (.lst (h.P.map ptD))) (.f (.l (h.at'.map D.int))) (.f (.tl (rsD h.R))) (.f (.l (h.past.map mvD)))) (.tl (rsD y)) [.o (some a) (hlO C h),.v (mvD v),ρ'] = [.o (some a) (hlO C { h with R:=y }),.v (mvD v),ρ']:=λy ρ'=>by
  unfold zEp
  rw [zPL C h]
  rfl
 have sF:∀ (h1:Hl),HOk (k+1) h1->zOL C 0 "past" (gV 1) [.o (some a) (hlO C h1),.v (mvD v),.v (.tup [.int v.a,.int v.b])]=some (.nx [.o (some a) (hlO C { h1 with past:=h1.past ++ [v] }),.v (mvD v),.v (.tup [.int v.a,.int v.b])]):=λh1 H1=>by
  have of:=zNO (C:=C) (h:=h1) (f:="past") (ρ:=[.o (some a) (hlO C h1),.v (mvD v),.v (.tup [.int v.a,.int v.b])]) (i:=0) (c:=some a) rfl (zKB C h1)
  have l1:(h1.past.map mvD).length<1000000:=by have:=H1.pl;rw [zUi];omega
  unfold zOL
  rw [of,zUb]
  simp only [zUp l1,zNd,zVB,zUv,zUx,zEp,zVt]
  rw [zPM C h1]
  simp [hlO,fl4]
 have go:∀ (i:Nat),i=v.who->zB7 C (hlO C { h with R:=qR v h.R }) [.int i,.str v.w]=some (hlO C ⟨h.P,h.at'.set v.who n,qR v h.R,h.past⟩):=λi e=>by
  subst e
  exact zUJ H1 C w4
 have fin:(zUB C [.o (some a) (hlO C h),.v (mvD v),.un])=some (.nx [.o (some a) (hlO C (doM h v n)),.v (mvD v),.v (.tup [.int v.a,.int v.b])]):=by
  unfold zUB
  rw [zt s1,zt s2]
  have s3:(sIf (bB (b2 (b2 (gR 1) (zR 0) ixO) (λ_=>some (D.str "tell")) eqO)) (sq (zMO C 0 "rows" (gV 2) (b2 (gR 1) (zR 3) ixO)) (zFX C "go_on" 0 (zB (b2 (gR 1) (zR 1) ixO) (zB (b2 (gR 1) (zR 3) ixO) zN)) (zB7 C))) (sq (zMN C 0 "rows" (gV 2)) (zFX C "go_on" 0 (zB (b2 (gR 1) (zR 2) ixO) (zB (b2 (gR 1) (zR 3) ixO) zN)) (zB7 C)))) [.o (some a) (hlO C h),.v (mvD v),.v (.tup [.int v.a,.int v.b])]=some (.nx [.o (some a) (hlO C ⟨h.P,h.at'.set v.who n,qR v h.R,h.past⟩),.v (mvD v),.v (.tup [.int v.a,.int v.b])]):=by
   have ek:eqO (.str (zFC v.t)) (.str "tell")=some (.bl v.t):=by
    rw [zGD,show Str.ofString "tell" = zFC true from rfl,zFG]
    cases v.t<;>rfl
   have tst:(bB (b2 (b2 (gR 1) (zR 0) ixO) (λ_=>some (D.str "tell")) eqO)) [.o (some a) (hlO C h),.v (mvD v),.v (.tup [.int v.a,.int v.b])]=some v.t:=by
    exists i0,ek,eqL,zP,gN,gT,gCs,gNl,zj,zc,neO,zV,isO
   unfold sIf
   rw [tst,zUb]
   cases ht:v.t with
   |true=>
    rw [zUp rfl]
    rw [ht] at w5
    simp only [zVU] at w5
    have ra:=zUK (k:=(v.a,v.b)) (w:=v.w) (R:=h.R)
    have rb:qR v h.R=zNP (v.a,v.b) v.w h.R:=by simp [qR,ht]
    have t1:zMO C 0 "rows" (gV 2) (b2 (gR 1) (zR 3) ixO) [.o (some a) (hlO C h),.v (mvD v),.v (.tup [.int v.a,.int v.b])]=some (.nx [.o (some a) (hlO C { h with R:=qR v h.R }),.v (mvD v),.v (.tup [.int v.a,.int v.b])]):=by
     rw [rb]
     unfold zMO
     rw [of,zUb]
     have e3:∀ s0,(b2 (gR 1) (zR 3) ixO) [s0,.v (mvD v),.v (.tup [.int v.a,.int v.b])]=some (.str v.w):=λs0=>by
      exists 0,i3
     simp only [zNd,zVB,zUv,zUb,kt]
     cases eg:zA5 (rsD h.R) (rkD (v.a,v.b)) with
     |some xs=>
      rw [eg] at ra gr
      simp only at ra
      have lx:xs.length<1000000:=by
       cases ef:h.R.find? λq=>decide (q.1=(v.a,v.b)) with
       |none=>rw [ef] at gr;simp at gr
       |some q=>
        rw [ef] at gr
        simp only [zUx,zWN] at gr
        have:=r2 q (List.mem_of_find?_eq_some ef)
        rw [gr,zUi];omega
      simp only [zUp lx,e3,zUx,ra,pf]
     |none=>
      rw [eg] at ra
      simp only at ra
      have lx:(rsD h.R).length<1000000:=by unfold rsD;rw [zUi];omega
      simp only [zUp lx]
      have e4:=e3 (.o (some a) (.ins C (qa "rows" (.f (.tl (rsD h.R ++ [(rkD (v.a,v.b),[])]))) (fl4 (.v (.lst (h.P.map ptD))) (.f (.l (h.at'.map D.int))) (.f (.tl (rsD h.R))) (.f (.l (h.past.map mvD)))))))
      rw [show zEp C 0 "rows" (some a) (fl4 (.v (.lst (h.P.map ptD))) (.f (.l (h.at'.map D.int))) (.f (.tl (rsD h.R))) (.f (.l (h.past.map mvD)))) (.tl (rsD h.R ++ [(rkD (v.a,v.b),[])])) [.o (some a) (hlO C h),.v (mvD v),.v (.tup [.int v.a,.int v.b])] = [.o (some a) (.ins C (qa "rows" (.f (.tl (rsD h.R ++ [(rkD (v.a,v.b),[])]))) (fl4 (.v (.lst (h.P.map ptD))) (.f (.l (h.at'.map D.int))) (.f (.tl (rsD h.R))) (.f (.l (h.past.map mvD)))))),.v (mvD v),.v (.tup [.int v.a,.int v.b])] from rfl,e4]
      simp only [zUx,ra,pf]
    rw [zt t1]
    refine (zEL (ds:=[.int (v.who:Int),.str v.w]) rfl (zKC C _) ?_ (go v.who rfl)).trans rfl
    rw [<- w5.1]
    exists 0,i1,i3
   |false=>
    rw [zVD (by simp)]
    rw [ht] at w5
    simp only [zVN,zVg] at w5
    obtain ⟨z1,z2,z3⟩:=w5
    have rb:qR v h.R=zIO (v.a,v.b) List.tail h.R:=by simp [qR,ht]
    have t1:zMN C 0 "rows" (gV 2) [.o (some a) (hlO C h),.v (mvD v),.v (.tup [.int v.a,.int v.b])]=some (.nx [.o (some a) (hlO C { h with R:=qR v h.R }),.v (mvD v),.v (.tup [.int v.a,.int v.b])]):=by
     rw [rb]
     unfold zMN
     rw [of,zUb]
     simp only [zNd,zVB,zUv,zUb,kt]
     unfold yc at z3
     cases ef:h.R.find? λq=>decide (q.1=(v.a,v.b)) with
     |none=>rw [ef] at z3;simp at z3
     |some q=>
      rw [ef] at z3 gr
      simp only [zUx,Option.getD_some] at z3 gr
      cases hq:q.2 with
      |nil=>rw [hq] at z3;simp at z3
      |cons x xs=>
       rw [hq,zUc] at gr
       rw [gr]
       have rs:=zNQ (k:=(v.a,v.b)) (f:=List.tail) (xs:=x::xs) (R:=h.R) (by rw [ef];simp [hq])
       simp only [List.tail_cons] at rs
       simp only [rs,pf]
    rw [zt t1]
    refine (zEL (ds:=[.int (v.who:Int),.str v.w]) rfl (zKC C _) ?_ (go v.who rfl)).trans rfl
    rw [<- z1]
    exists 0,i2,i3
  rw [zt s3]
  refine (sF ⟨h.P,h.at'.set v.who n,qR v h.R,h.past⟩ ?_).trans rfl
  have:=zP8 H w2 w3
  exact ⟨this.len,this.m4,this.inn,this.st,this.rn,this.rl,by show h.past.length<=k+1;omega⟩
 show (zUB C [.o (some a) (hlO C h),.v (mvD v),.un]).bind _=_
 rw [fin]
 simp only [zUb,zD3,zUv,zVU]
theorem zSF {m:Int} {ps:List Pl} {d:Int} (h:PS m ps d) {Ks:List (List Int)} (k:IsPart ps d Ks) {K:List Int} (hK:K∈Ks):OkSt Ks.length (zI7 ps d Ks K):=by
 have few:=zP3 h.few (k.st K hK) (k.al K hK)
 have wl:=zI4 (zFA ps d K)
 have mp:(zD8 ps d Ks K).map (·.1)=zAg ps d K:=by unfold zD8;rw [zVa];exact List.map_id _
 have ok:∀ o,OkA Ks.length o (zD8 ps d Ks K):=λo=>by
  refine ⟨by unfold zD8 zAg;rw [zUi,zBD];omega,by rw [mp];exact qw (zH2 _),λq hq=>?_,λq hq=>?_⟩
  ·obtain ⟨w,hw,rfl⟩:=zVA.mp hq
   obtain ⟨x,hx,e⟩:=zI5.mp (zD4.mp hw)
   rw [<- e]
   exact (zT5 h.dn hx).2
  ·obtain ⟨w,hw,rfl⟩:=zVA.mp hq
   have:=zM5 (k.cl K hK w hw)
   exact ⟨by simp,by simpa using this⟩
 unfold zI7
 cases turns ps d K with
 |nil=>trivial
 |cons t ts=>
  simp only
  cases ask t d with
  |fin=>trivial
  |tells b ws=>exact ok b
  |hears a=>exact ok a
def IsP (ps:List Pl) (i:Nat) (p:List St):Prop:=∃ Ks,IsPart ps i Ks/\p=Ks.map (zI7 ps i Ks)
def zAi (ps:List Pl):List Nat->List (List St)->Prop
 | [],P=>P = []
 |i::is,P=>∃ p r,P=p::r/\IsP ps i p/\zAi ps is r
theorem zAi.get {ps:List Pl}:∀ {is:List Nat} {P:List (List St)},zAi ps is P->P.length=is.length/\∀ (j:Nat) (p:List St),P[j]?=some p->∃ i,is[j]?=some i/\IsP ps i p
 | [],P,h=>by simp only [zAi] at h;subst h;exact ⟨rfl,λj p e=>by simp at e⟩
 |i::is,P,h=>by
  obtain ⟨p,r,rfl,h1,h2⟩:=h
  obtain ⟨l,g⟩:=h2.get
  refine ⟨by simp [l],λj q e=>?_⟩
  cases j with
  |zero=>simp at e;subst e;exact ⟨i,rfl,h1⟩
  |succ j=>simp at e;simpa using g j q e
def zPN:List (Except Nat D)->Except Nat (List D)
 | []=>.ok []
 |.error c::_=>.error c
 |.ok y::r=>match zPN r with
  |.ok ys=>.ok (y::ys)
  |.error c=>.error c
theorem zKE {Y:Rho->Option (Except Nat D)} {r:Nat->Except Nat D} {s0 s1:Sl}:∀ (is:List Nat),(∀ i∈is,Y [s0,s1,.v (.int (i:Int))]=some (r i))->zKj (gN 2) Y (is.map λ(i:Nat)=>D.int (0+(i:Int))) [s0,s1,.un]=some (zPN (is.map r))
 | [],_=>rfl
 |i::is,h=>by
  have ih:=zKE is λj hj=>h j (zUY _ hj)
  have hi:=h i zUd
  have g:gN 2 (D.int (0+(i:Int))) [s0,s1,.un]=some [s0,s1,.v (.int (i:Int))]:=by rw [zWq];rfl
  rw [zUc,zKj,g,zUb,hi,zUb,zUc,ih]
  cases r i with
  |error c=>rfl
  |ok y=>
   simp only [zPN,zUx]
   all_goals (cases zPN (is.map r)<;>rfl)
noncomputable def zJD (m:Int) (ps:List Pl) (i:Nat):Except Nat D:=(qF [dnD m ps,.int (i:Int)]).getD (.error 0)
theorem zKF {m:Int} {ps:List Pl} (hd:qL m ps) (hf:Few ps) {i:Nat} (hi:(i:Int)<m):qF [dnD m ps,.int (i:Int)]=some (zJD m ps i)/\(zJD m ps i = .error 0\/∃ p,IsP ps i p/\zJD m ps i = .ok (ptD p)):=by
 unfold zJD
 rcases zR5 (m:=m) (ps:=ps) (d:=(i:Int)) ⟨hd,hf,by omega,hi⟩ with e|⟨Ks,hk,e⟩
 ·rw [e];exact ⟨rfl,.inl rfl⟩
 ·rw [e];exact ⟨rfl,.inr ⟨_,⟨Ks,hk,rfl⟩,rfl⟩⟩
theorem zKu {f:ROl} {ρ:Rho} {ds:List D} (M:List D->Option (Except Nat D)) (h:f ρ=some ds):(λρ=>(f ρ).bind M) ρ=M ds:=by
 show (f ρ).bind M=M ds
 rw [h];rfl
theorem Y_is (C:Addr) (m:Int) (ps:List Pl) (s0:Sl) (d:D):zC9 C [s0,.v (dnD m ps),.v d]=qF [dnD m ps,d]:=by
 unfold zC9
 exact zKu qF rfl
theorem zIF {m:Int} {ps:List Pl} (hd:qL m ps) (hf:Few ps):∀ (is:List Nat),(∀ i∈is,(i:Int)<m)->zPN (is.map (zJD m ps)) = .error 0\/∃ P,zAi ps is P/\zPN (is.map (zJD m ps)) = .ok (P.map ptD)
 | [],_=>.inr ⟨[],rfl,rfl⟩
 |i::is,h=>by
  have hi:=h i zUd
  have ih:=zIF hd hf is λj hj=>h j (zUY _ hj)
  rw [zUc]
  rcases (zKF hd hf hi).2 with e|⟨p,hp,e⟩
  ·left;rw [e];rfl
  ·rw [e]
   rcases ih with e' | ⟨P,hP,e'⟩
   ·left;simp only [zPN,e']
   ·right
    exact ⟨p::P,⟨_,_,rfl,hp,hP⟩,by simp only [zPN,e',zUc]⟩
def q8 (P:List (List St)):Hl:=⟨P,P.map λ_=>0,[],[]⟩
theorem zKG {m:Int} {ps:List Pl} (hd:qL m ps) (hf:Few ps) {P:List (List St)} (h:zAi ps (List.range m.toNat) P):HOk 0 (q8 P)/\P.length=m.toNat:=by
 obtain ⟨l,g⟩:=h.get
 rw [zWj] at l
 have hm:=hd.m1
 have hm0:=hd.m0
 have one:∀ (j:Nat) (p:List St),P[j]?=some p->0<p.length/\∀ s∈p,OkSt p.length s:=λj p e=>by
  obtain ⟨i,ei,Ks,hk,rfl⟩:=g j p e
  have hi:=zVy.mp (zU3 ei)
  refine ⟨?_,λs hs=>?_⟩
  ·have:=(zUs.mp hk.ze).1
   simpa using this
  ·obtain ⟨K,hK,rfl⟩:=zVA.mp hs
   rw [zUi]
   exact zSF (m:=m) ⟨hd,hf,by omega,by omega⟩ hk hK
 refine ⟨⟨by simp [q8],by simp only [q8];omega,λi p n e1 e2=>?_,λp hp=>?_,by simp [q8],by simp [q8],by simp [q8]⟩,l⟩
 ·simp only [q8,zVK] at e1 e2
  rw [e1] at e2
  simp at e2
  subst e2
  have:=(one i p e1).1
  omega
 ·obtain ⟨j,e⟩:=List.getElem?_of_mem hp
  exact (one j p e).2
theorem zKH {C:Addr} {f:Str} {x:Fl} {fs:List (Str×Fl)} {c:Option Addr} {s1:Sl} (h1:fs.lookup f=none) (h2:fs.length<900):zC4 C 0 f x [.o c (.ins C fs),s1]=some (.nx [.o c (.ins C (fs ++ [(f,x)])),s1]):=by
 have h3:(List.lookup f fs).isNone=true:=by rw [h1];rfl
 simp only [zC4,zUv,h3,h2,and_self,zVU,zVt]
theorem zNT (C:Addr) (s0 s1:Sl) (P:List (List St)):zP (gN 2) (λ_=>some true) (zCI C) (P.map ptD) [s0,s1,.un]=some ((P.map λ_=>(0:Int)).map D.int):=by
 have:=z9 (g:=gN 2) (p:=λ_=>some true) (f:=zCI C) (emb:=ptD) (ρ:=[s0,s1,.un]) (λ_=>true) (λ_=>D.int 0) P λp _=>⟨_,rfl,rfl,λ_=>rfl⟩
 rw [this,zVn.mpr (by simp),zVa]
 rfl
theorem zKI {m:Int} {ps:List Pl} (hd:qL m ps) (hf:Few ps) (C:Addr):zAh C (.ins C []) [dnD m ps]=some (.error 0)\/∃ P,zAi ps (List.range m.toNat) P/\zAh C (.ins C []) [dnD m ps]=some (.ok (hlO C (q8 P))):=by
 have hm:=hd.m1
 have hm0:=hd.m0
 have inr:∀ i∈List.range m.toNat,(i:Int)<m:=λi hi=>by have:=zVy.mp hi;omega
 have rg:∀ s0,iR1 (zB (b2 (gR 1) (zR 0) ixO) zN) [s0,.v (dnD m ps)]=some (rng 0 m.toNat):=λs0=>by
  refine zF5 ?_ (by omega)
  have i0:ixO (dnD m ps) (.int 0)=some (.int m):=by simp only [dnD,ixO,at0]
  rw [show ((m.toNat:Nat):Int)=m by omega]
  exists 0,i0
 have rl:(rng 0 m.toNat).length<=1000000:=by rw [zI6];omega
 have sc:∀ a,zF1 1 (iR1 (zB (b2 (gR 1) (zR 0) ixO) zN)) (gN 2) (zC9 C) [.o (some a) (.ins C []),.v (dnD m ps)]=some (zPN ((List.range m.toNat).map (zJD m ps))):=λa=>by
  unfold zF1
  rw [rg,zUb,zUp rl]
  exact zKE _ λi hi=>(Y_is C m ps _ _).trans (zKF hd hf (inr i hi)).1
 rcases zIF hd hf (List.range m.toNat) inr with e|⟨P,hP,e⟩
 ·left
  refine qV λa=>?_
  show (zF9 C [.o (some a) (.ins C []),.v (dnD m ps)]).bind _=_
  unfold zF9
  rw [zJ6 (c:=0) (by unfold zHt;rw [sc a,e];rfl)]
  rfl
 ·right
  obtain ⟨hl,_⟩:=hP.get
  rw [zWj] at hl
  refine ⟨P,hP,qV λa=>?_⟩
  show (zF9 C [.o (some a) (.ins C []),.v (dnD m ps)]).bind _=_
  unfold zF9
  have t1:zHt C 0 "parts" (zF1 1 (iR1 (zB (b2 (gR 1) (zR 0) ixO) zN)) (gN 2) (zC9 C)) [.o (some a) (.ins C []),.v (dnD m ps)]=some (.o (.nx [.o (some a) (.ins C [(Str.ofString "parts",.v (.lst (P.map ptD)))]),.v (dnD m ps)])):=by
   unfold zHt
   rw [sc a,e,zUb]
   simp only
   rw [zKH rfl (by decide)]
   rfl
  rw [zCT t1]
  have f1:(λρ=>(zFz C 0 (Str.ofString "parts") ρ).bind flV) [.o (some a) (.ins C [(Str.ofString "parts",.v (.lst (P.map ptD)))]),.v (dnD m ps)]=some (.lst (P.map ptD)):=by
   simp only [zFz,zC0,zUv,zUb,zC1,zVU,zUy,zUz,flV]
  have cz:=zNT C (.o (some a) (.ins C [(Str.ofString "parts",.v (.lst (P.map ptD)))])) (.v (dnD m ps)) P
  have lk1:List.lookup (Str.ofString "at") [(Str.ofString "parts",Fl.v (.lst (P.map ptD)))]=none:=by simp only [zUy,zFD,zW5]
  have t2:(λρ=>((zJ 1 (iL (λρ=>(zFz C 0 (Str.ofString "parts") ρ).bind flV)) (gN 2) (λ_=>some true) (zCI C)) ρ).bind λxs=>zC4 C 0 (Str.ofString "at") (.f (.l xs)) ρ) [.o (some a) (.ins C [(Str.ofString "parts",.v (.lst (P.map ptD)))]),.v (dnD m ps)]=some (.nx [.o (some a) (.ins C [(Str.ofString "parts",.v (.lst (P.map ptD))),(Str.ofString "at",.f (.l ((P.map λ_=>(0:Int)).map D.int)))]),.v (dnD m ps)]):=by
   have cc:zJ 1 (iL (λρ=>(zFz C 0 (Str.ofString "parts") ρ).bind flV)) (gN 2) (λ_=>some true) (zCI C) [.o (some a) (.ins C [(Str.ofString "parts",.v (.lst (P.map ptD)))]),.v (dnD m ps)]=some ((P.map λ_=>(0:Int)).map D.int):=by
    unfold zJ iL
    simp only at f1
    simp only [f1,asL,zUb]
    rw [zUp (by rw [zUi];omega)]
    exact cz
   simp only [cc,zUb]
   rw [zKH lk1 (by simp)]
   rfl
  have lk2:List.lookup (Str.ofString "rows") [(Str.ofString "parts",Fl.v (.lst (P.map ptD))),(Str.ofString "at",.f (.l ((P.map λ_=>(0:Int)).map D.int)))]=none:=by simp only [zUy,zDB,zGB,zW5]
  have lk3:List.lookup (Str.ofString "past") [(Str.ofString "parts",Fl.v (.lst (P.map ptD))),(Str.ofString "at",.f (.l ((P.map λ_=>(0:Int)).map D.int))),(Str.ofString "rows",.f (.tl []))]=none:=by simp only [zUy,zDC,zGC,zD5,zW5]
  have t3:=zKH (C:=C) (f:=Str.ofString "rows") (x:=.f (.tl [])) (c:=some a) (s1:=.v (dnD m ps)) lk2 (by simp)
  have t4:=zKH (C:=C) (f:=Str.ofString "past") (x:=.f (.l [])) (c:=some a) (s1:=.v (dnD m ps)) lk3 (by simp)
  have t5:(oX (sq (λρ=>((zJ 1 (iL (λρ=>(zFz C 0 (Str.ofString "parts") ρ).bind flV)) (gN 2) (λ_=>some true) (zCI C)) ρ).bind λxs=>zC4 C 0 (Str.ofString "at") (.f (.l xs)) ρ) (sq (λρ=>zC4 C 0 (Str.ofString "rows") (.f (.tl [])) ρ) (λρ=>(zN ρ).bind λxs=>zC4 C 0 (Str.ofString "past") (.f (.l xs)) ρ)))) [.o (some a) (.ins C [(Str.ofString "parts",.v (.lst (P.map ptD)))]),.v (dnD m ps)]=some (.o (.nx [.o (some a) (hlO C (q8 P)),.v (dnD m ps)])):=by
   refine zH6 ?_
   rw [zt t2,zt t3]
   exact t4
  rw [t5]
  simp only [zUb,zD3,zUv,zVU,zUx]
theorem zPO {m:Int} {ps:List Pl} (hd:qL m ps) (hf:Few ps) (C:Addr):yO C [dnD m ps]=some (.v .non)\/∃ P,zAi ps (List.range m.toNat) P/\yO C [dnD m ps]=some (.o none (hlO C (q8 P))):=by
 have s1:qD 1 (λ_=>some D.non) [.v (dnD m ps),.un]=some (.nx [.v (dnD m ps),.v .non]):=rfl
 have go:yO C [dnD m ps]=(qQ C [.v (dnD m ps),.un]).bind zRJ:=rfl
 rw [go]
 unfold qQ
 rw [zt s1]
 rcases zKI hd hf C with e|⟨P,hP,e⟩
 ·left
  have t:zCP C 1 (zB (gV 0) zN) (zAh C) 0 (qD 1 (λ_=>some D.non)) [.v (dnD m ps),.v .non]=some (.nx [.v (dnD m ps),.v .non]):=by
   unfold zCP
   rw [show (zB (gV 0) zN) [.v (dnD m ps),.v .non]=some [dnD m ps] from rfl,zUb,e]
   rfl
  rw [zt t]
  rfl
 ·right
  refine ⟨P,hP,?_⟩
  have t:zCP C 1 (zB (gV 0) zN) (zAh C) 0 (qD 1 (λ_=>some D.non)) [.v (dnD m ps),.v .non]=some (.nx [.v (dnD m ps),.o none (hlO C (q8 P))]):=by
   unfold zCP
   rw [show (zB (gV 0) zN) [.v (dnD m ps),.v .non]=some [dnD m ps] from rfl,zUb,e]
   rfl
  rw [zt t]
  rfl
end LG
namespace K09
open PySem L2 RD LG
abbrev zG5:List Str:=["self"]
noncomputable def zG6 (C:Addr):ROo:=(zAA (b1 (λρ=>(zFz C 0 "at" ρ).bind flR) zHb))
noncomputable def zCK (C:Addr) (x:Ob) (ds:List D):Option D:=zIm λa=>zLB zG5 (zG6 C) a x ds
abbrev zCk:List Str:=["_law_move"]
noncomputable def zBa:ROo:=(sq (sIf (bB (b2 (b2 (gR 0) (zR 0) ixO) (λ_=>some (D.str "tell")) eqO)) (zAA (b2 (gR 0) (zR 1) ixO)) (λρ=>some (Out.nx ρ))) (zAA (b2 (gR 0) (zR 2) ixO)))
noncomputable def qN (ds:List D):Option D:=zDW zCk zBa ds
noncomputable def qo (C:Addr):ROo:=(sq (sIf (bB (b2 (gV 3) (yk C "moves" 2 zN (yM C)) zQu)) (zAA (λ_=>some D.non)) (λρ=>some (Out.nx ρ))) (zFX C "do" 2 (zB (gV 3) zN) (zR7 C)))
noncomputable def qp (C:Addr):ROb:=(bB (b2 (gR 6) (gR 5) neO))
noncomputable def zA2 (C:Addr):ROd:=(yk C "row" 2 (zB (gV 5) (zB (gV 6) zN)) (zH8 C))
noncomputable def qr (C:Addr):ROo:=(zIN 4 (λρ=>((zJ 1 (iR1 (zB (b2 (gR 0) (zR 0) ixO) zN)) (gN 6) (qp C) (zA2 C)) ρ).map D.lst))
abbrev zB8:List Str:=["_law_dance_here","_law_moves","_law_hall_here","_law_move","_law_rows","_law_one"]
noncomputable def zAr (C:Addr):ROo:=(sq (zJp C 2 (zB (gV 0) zN) (zAh C)) (sq (zf (iT (gV 1)) (gN 3) (qo C)) (sq (zAT 4 zN) (sq (zf (iR1 (zB (b2 (gR 0) (zR 0) ixO) zN)) (gN 5) (qr C)) (λρ=>(zAA (λρ=>((zB (yk C "states" 2 zN (zCK C)) (zB (gV 4) (zB (yk C "moves" 2 zN (yM C)) zN))) ρ).map D.tup)) (frz 4 ρ))))))
noncomputable def q9 (C:Addr) (ds:List D):Option D:=zDW zB8 (zAr C) ds
noncomputable def zFI (C:Addr):ROo:=(sq (qD 4 (yk C "moves" 2 zN (yM C))) (sIf (zK9 (gR 4)) (zFX C "do" 2 (zB (b2 (gR 4) (λρ=>((zB (gV 3) (zB (zR 9829) (zB (b1 (gR 4) zEF) zN))) ρ).bind zS) ixO) zN) (zR7 C)) (λρ=>some (Out.nx ρ))))
noncomputable def zFJ (C:Addr):ROd:=(gV 9)
noncomputable def zFK (C:Addr):ROo:=(sIf (bB (b2 (λρ=>((zB (gV 6) zN) ρ).bind qN) (λρ=>((zB (gV 7) zN) ρ).bind qN) neO)) (sq (qD 8 (λρ=>((zB (gV 1) (zB (b2 (gR 5) (λρ=>((zB (gV 6) (zB (gV 7) zN)) ρ).map D.tup) zV) zN)) ρ).bind (q9 C))) (sIf (bOr (bB (b2 (gR 8) (λ_=>some D.non) isO)) (bB (b2 (gR 8) (λρ=>((zB (gV 1) (zB (b2 (gR 5) (λρ=>((zB (gV 7) (zB (gV 6) zN)) ρ).map D.tup) zV) zN)) ρ).bind (q9 C)) neO))) (zAA (λ_=>some (D.bl false))) (λρ=>some (Out.nx ρ)))) (λρ=>some (Out.nx ρ)))
noncomputable def zFL (C:Addr):ROo:=(zf (iL (gV 4)) (gN 7) (zFK C))
abbrev zSG:List Str:=["_law_script","_law_dance_here","_law_hall_here","_law_cell_here","_law_moves","_law_done","_law_one","_law_other","_law_found"]
noncomputable def zPP (C:Addr):ROo:=(sq (qD 1 (λρ=>((zB (gV 0) zN) ρ).bind qh)) (sq (sIf (bB (b2 (b2 (λρ=>((zB (gV 0) (zB (zR 4) zN)) ρ).bind zh) (zR 3) zGV) (zR 0) eqO)) (qD 1 (λρ=>((zB (gV 1) (zB (b2 (λρ=>((zB (gV 0) (zB (zR 4) zN)) ρ).bind zh) (zR 3) zKZ) zN)) ρ).bind yi)) (λρ=>some (Out.nx ρ))) (sq (zEs 2 (zB (gV 1) zN) (yO C)) (sq (sIf (isN 2) (zAA (λ_=>some (D.bl true))) (λρ=>some (Out.nx ρ))) (sq (zf (iL (λρ=>((b3S (gR 0) (oI (zR 5)) (oI (zR 20)) slF) ρ).map D.lst)) (gN 3) (zFI C)) (sq (qD 5 (yk C "done" 2 zN (zGA C))) (sq (qD 4 (λρ=>((b3S (λρ=>((zJ 1 (iT (yk C "moves" 2 zN (yM C))) (gN 9) (λ_=>some true) (zFJ C)) ρ).map D.lst) (λ_=>some none) (oI (zR 4)) slF) ρ).map D.lst)) (sq (zf (iL (gV 4)) (gN 6) (zFL C)) (zAA (λ_=>some (D.bl true)))))))))))
noncomputable def m_law (C:Addr) (ds:List D):Option D:=zDW zSG (zPP C) ds
end K09
namespace K09
open PySem L2 RD LG
def doV (h:Hl) (v:Mv):Hl:=doM h v ((qz h v.who v.w).getD 0)
def zKv (h:Hl):List Mv->Hl->Prop
 | [],h'=>h'=h
 |v::vs,h'=>v∈mvs h/\zKv (doV h v) vs h'
theorem zKv.snoc {v:Mv}:∀ {vs:List Mv} {h h':Hl},zKv h vs h'->v∈mvs h'->zKv h (vs ++ [v]) (doV h' v)
 | [],h,h',p,hv=>by simp only [zKv] at p;subst p;exact ⟨hv,rfl⟩
 |u::vs,h,h',p,hv=>⟨p.1,zKv.snoc p.2 hv⟩
theorem zP9 {k:Nat} {h:Hl} (H:HOk k h) (hk:k<=1000) (C:Addr) {v:Mv} (hv:v∈mvs h):zR7 C (hlO C h) [mvD v]=some (hlO C (doV h v))/\HOk (k+1) (doV h v)/\(doV h v).P=h.P/\(doV h v).past=h.past ++ [v]:=by
 obtain ⟨n,o,prs,y1,y2,y3,y4,y5⟩:=zUL H hk C hv
 have e:doV h v=doM h v n:=by unfold doV;rw [y4];rfl
 rw [e]
 exact ⟨y5,zP8 H y2 y3,rfl,rfl⟩
structure zSH (h h':Hl):Prop where
 P:h.P=h'.P
 at_:h.at'=h'.at'
 row:∀ a b,yc h a b=yc h' a b
theorem zSH.st {h h':Hl} (l:zSH h h') (i:Nat):zIB h i=zIB h' i:=by unfold zIB;rw [l.P,l.at_]
theorem zSH.mvs {h h':Hl} (l:zSH h h'):mvs h=mvs h':=by
 have:∀ i,zCM h i=zCM h' i:=λi=>by
  unfold zCM
  rw [l.st i]
  cases zIB h' i with
  |none=>rfl
  |some s=>
   cases s with
   |fin=>rfl
   |rests=>rfl
   |act t o prs=>cases t<;>simp only [l.row]
 unfold LG.mvs
 rw [l.P]
 exact zVX (λf=>List.flatMap f _) (funext this)
theorem zIG (h:Hl) (v:Mv) (n a b:Int):yc (doM h v n) a b=if (a,b)=(v.a,v.b) then (if v.t=true then yc h a b ++ [v.w] else (yc h a b).tail) else yc h a b:=by
 have ro:yc (doM h v n) a b=yc { h with R:=qR v h.R } a b:=rfl
 rw [ro]
 cases ht:v.t with
 |true=>rw [show qR v h.R=zNP (v.a,v.b) v.w h.R by simp [qR,ht],zNR];simp
 |false=>rw [show qR v h.R=zIO (v.a,v.b) List.tail h.R by simp [qR,ht],zNS];simp
theorem zUM {h:Hl} {v:Mv} {n:Int} {i:Nat} (hi:v.who≠i):zIB (doM h v n) i=zIB h i:=by
 unfold zIB doM
 simp only
 rw [zU2 hi]
theorem zNU {h:Hl} {v:Mv} {n:Int} {i:Nat} {w:Str} (hi:v.who≠i):qz (doM h v n) i w=qz h i w:=by unfold qz;rw [zUM hi]
theorem stays {k:Nat} {h:Hl} (H:HOk k h) {v u:Mv} (hv:v∈mvs h) (hu:u∈mvs h) (ne:v.who≠u.who) (n:Int):u∈mvs (doM h v n):=by
 obtain ⟨o,prs,n1,w1,w2,w3,w4,w5⟩:=zDu H hv
 obtain ⟨o',prs',n2,z1,z2,z3,z4,z5⟩:=zDu H hu
 refine zVv.mpr ⟨u.who,zVy.mpr z1,?_⟩
 unfold zCM
 rw [zUM ne,z2]
 obtain ⟨ut,ua,ub,uw⟩:=u
 cases ut with
 |true=>
  simp only [zVU] at z5
  simp only
  refine zVA.mpr ⟨_,z3,?_⟩
  rw [<- z5.1,<- z5.2]
 |false=>
  simp only [zVN,zVg] at z5
  obtain ⟨y1,y2,y3⟩:=z5
  simp only
  refine zVA.mpr ⟨(uw,n2),zVr.mpr ⟨z3,?_⟩,?_⟩
  ·refine zVk ?_
   simp only
   rw [<- y1,<- y2,zIG]
   by_cases c:(ua,ub)=(v.a,v.b)
   ·rw [zUp c]
    cases ht:v.t with
    |true=>
     rw [zUp rfl,y3]
     cases er:yc h ua ub with
     |nil=>rw [er] at y3;simp at y3
     |cons x xs=>simp
    |false=>
     exfalso
     rw [ht] at w5
     simp only [zVN,zVg] at w5
     have cb:ub=v.b:=by simpa using zVX Prod.snd c
     apply ne
     have q1:(v.who:Int)=(Mv.who ⟨false,ua,ub,uw⟩:Nat):=by rw [<- w5.1,<- y1,cb]
     exact Int.ofNat_inj.mp q1
   ·rw [zVD c];exact y3
  ·simp only
   rw [<- y1,<- y2]
theorem zUN {k:Nat} {h:Hl} (H:HOk k h) {v u:Mv} (hv:v∈mvs h) (hu:u∈mvs h) (ne:v.who≠u.who):u∈mvs (doV h v)/\v∈mvs (doV h u)/\zSH (doV (doV h v) u) (doV (doV h u) v):=by
 refine ⟨stays H hv hu ne _,stays H hu hv (Ne.symm ne) _,⟨rfl,?_,λa b=>?_⟩⟩
 ·have e1:qz (doV h v) u.who u.w=qz h u.who u.w:=zNU ne
  have e2:qz (doV h u) v.who v.w=qz h v.who v.w:=zNU (Ne.symm ne)
  show ((h.at'.set v.who _).set u.who ((qz (doV h v) u.who u.w).getD 0))=((h.at'.set u.who _).set v.who ((qz (doV h u) v.who v.w).getD 0))
  rw [e1,e2]
  exact List.set_comm _ _ ne
 ·obtain ⟨o,prs,n1,w1,w2,w3,w4,w5⟩:=zDu H hv
  obtain ⟨o',prs',n2,z1,z2,z3,z4,z5⟩:=zDu H hu
  have r1:yc (doV (doV h v) u) a b=_:=zIG (doV h v) u _ a b
  have r2:yc (doV (doV h u) v) a b=_:=zIG (doV h u) v _ a b
  have r3:yc (doV h v) a b=_:=zIG h v _ a b
  have r4:yc (doV h u) a b=_:=zIG h u _ a b
  rw [r1,r2,r3,r4]
  by_cases c:(a,b)=(v.a,v.b)
  ·by_cases c':(a,b)=(u.a,u.b)
   ·rw [zUp c,zUp c',zUp c',zUp c]
    have ca:v.a=u.a:=by have:=c.symm.trans c';simpa using zVX Prod.fst this
    have cb:v.b=u.b:=by have:=c.symm.trans c';simpa using zVX Prod.snd this
    have a1:a=v.a:=by simpa using zVX Prod.fst c
    have b1:b=v.b:=by simpa using zVX Prod.snd c
    cases tv:v.t with
    |true=>
     cases tu:u.t with
     |true=>
      exfalso
      rw [tv] at w5;rw [tu] at z5
      simp only [zVU] at w5 z5
      exact ne (Int.ofNat_inj.mp (by rw [<- w5.1,<- z5.1,ca]))
     |false=>
      rw [tu] at z5
      simp only [zVN,zVg] at z5
      rw [zUp rfl,zVD (by simp),zUp rfl,zVD (by simp)]
      cases er:yc h a b with
      |nil=>
       have:=z5.2.2
       rw [<- ca,<- cb,<- a1,<- b1,er] at this
       simp at this
      |cons x xs=>simp
    |false=>
     cases tu:u.t with
     |true=>
      rw [tv] at w5
      simp only [zVN,zVg] at w5
      rw [zUp rfl,zVD (by simp),zUp rfl,zVD (by simp)]
      cases er:yc h a b with
      |nil=>
       have:=w5.2.2
       rw [<- a1,<- b1,er] at this
       simp at this
      |cons x xs=>simp
     |false=>
      exfalso
      rw [tv] at w5;rw [tu] at z5
      simp only [zVN,zVg] at w5 z5
      exact ne (Int.ofNat_inj.mp (by rw [<- w5.1,<- z5.1,cb]))
   ·simp only [zUp c,zVD c']
  ·by_cases c':(a,b)=(u.a,u.b)
   ·simp only [zVD c,zUp c']
   ·simp only [zVD c,zVD c']
def zJE (m:Int) (h:Hl):D:=.lst ((List.range m.toNat).map λ(i:Nat)=>.lst (((List.range m.toNat).filter λj=>decide (j≠i)).map λ(j:Nat)=>.tup ((yc h i j).map D.str)))
def zNg (m:Int) (h:Hl):D:=.tup [.tup (h.at'.map D.int),zJE m h,.tup ((mvs h).map mvD)]
theorem zSH.beh {m:Int} {h h':Hl} (l:zSH h h'):zNg m h=zNg m h':=by
 unfold zNg zJE
 rw [l.at_,l.mvs]
 simp only [l.row]
theorem zUO (v:Mv) (l:List Mv):zQu (mvD v) (.tup (l.map mvD))=some (.bl (decide (v∉l))):=by
 have:=zUG v l
 unfold inO at this
 unfold zQu
 rw [zUp (zP7 v)] at this ⊢
 simp only [zWN,D.bl.injEq] at this ⊢
 rw [this]
 by_cases c:v∈l<;>simp [c]
theorem zUP {m:Int} {ps:List Pl} (C:Addr) (s1:Sl):∀ (vs:List Mv) (k:Nat) (h h':Hl) (s3:Sl),HOk k h->k+vs.length<=900->zKv h vs h'->∃ s3',HOk (k+vs.length) h'/\zc (gN 3) (qo C) (vs.map mvD) [.v (dnD m ps),s1,.o none (hlO C h),s3,.un,.un]=some (.nx [.v (dnD m ps),s1,.o none (hlO C h'),s3',.un,.un])
 | [],k,h,h',s3,H,_,p=>by simp only [zKv] at p;subst p;exact ⟨s3,H,rfl⟩
 |v::vs,k,h,h',s3,H,hk,p=>by
  rw [zUa] at hk
  obtain ⟨hv,p⟩:=p
  obtain ⟨d1,d2,_,_⟩:=zP9 H (by omega) C hv
  obtain ⟨s3',i1,i2⟩:=zUP (m:=m) (ps:=ps) C s1 vs (k+1) (doV h v) h' (.v (mvD v)) d2 (by omega) p
  refine ⟨s3',by rw [zUa,show k+(vs.length+1)=k+1+vs.length by omega];exact i1,?_⟩
  have mm:yk C "moves" 2 zN (yM C) [.v (dnD m ps),s1,.o none (hlO C h),.v (mvD v),.un,.un]=some (.tup ((mvs h).map mvD)):=qJ rfl (zDE C h) rfl (zNN H C)
  have nn:=zUO v (mvs h)
  rw [zVH (λz=>z hv)] at nn
  have t1:(sIf (bB (b2 (gV 3) (yk C "moves" 2 zN (yM C)) zQu)) (zAA (λ_=>some D.non)) (λρ=>some (Out.nx ρ))) [.v (dnD m ps),s1,.o none (hlO C h),.v (mvD v),.un,.un]=some (.nx [.v (dnD m ps),s1,.o none (hlO C h),.v (mvD v),.un,.un]):=by
   generalize yk C "moves" 2 zN (yM C)=f1 at mm ⊢
   generalize hlO C h=O at mm ⊢
   exists 0,mm,nn
  have st:qo C [.v (dnD m ps),s1,.o none (hlO C h),.v (mvD v),.un,.un]=some (.nx [.v (dnD m ps),s1,.o none (hlO C (doV h v)),.v (mvD v),.un,.un]):=by
   unfold qo
   rw [zt t1]
   exact (zEL (ds:=[mvD v]) rfl (zUD C h) rfl d1).trans rfl
  rw [zUc,zDk (ρ1:=[.v (dnD m ps),s1,.o none (hlO C h),.v (mvD v),.un,.un]) rfl st,i2]
theorem zPQ {m:Int} {ps:List Pl} (C:Addr) (h:Hl) (s1 s3 s4:Sl) (i:Nat) (is:List Nat):zP (gN 6) (qp C) (zA2 C) (is.map λ(j:Nat)=>D.int (0+(j:Int))) [.v (dnD m ps),s1,.o none (hlO C h),s3,s4,.v (.int (i:Int)),.un]=some ((is.filter λj=>decide (j≠i)).map λ(j:Nat)=>.tup ((yc h i j).map D.str)):=by
 refine z9 (emb:=λ(j:Nat)=>D.int (0+(j:Int))) (λj=>decide (j≠i)) (λ(j:Nat)=>.tup ((yc h i j).map D.str)) is λj _=>?_
 rw [zWq]
 refine ⟨[.v (dnD m ps),s1,.o none (hlO C h),s3,s4,.v (.int (i:Int)),.v (.int (j:Int))],rfl,?_,λ_=>?_⟩
 ·have e:neO (.int (j:Int)) (.int (i:Int))=some (.bl (decide (j≠i))):=by
   unfold neO;rw [zUp (by simp [dep])];unfold eqD;rw [zDm]
   by_cases c:j=i
   ·simp [c]
   ·have:¬ (j:Int)=(i:Int):=by omega
    simp [c,this]
  exists qp,e,eqO,eqD,eqL,zP,gN,gT,gCs,gNl,zj,zc,zV,isO
 ·exact qJ rfl (zP5 C h) rfl (zNJ C h i j)
theorem zIH {m:Int} {ps:List Pl} (hm:0<=m/\m<=4) (C:Addr) (h:Hl) (s1 s3:Sl):∀ (is:List Nat) (acc:List D) (s5:Sl),acc.length+is.length<=1000->∃ s5',zc (gN 5) (qr C) (is.map λ(i:Nat)=>D.int (0+(i:Int))) [.v (dnD m ps),s1,.o none (hlO C h),s3,.l acc,s5]=some (.nx [.v (dnD m ps),s1,.o none (hlO C h),s3,.l (acc++is.map λ(i:Nat)=>.lst (((List.range m.toNat).filter λj=>decide (j≠i)).map λ(j:Nat)=>.tup ((yc h i j).map D.str))),s5'])
 | [],acc,s5,_=>⟨s5,by simp [zc]⟩
 |i::is,acc,s5,hl=>by
  rw [zUa] at hl
  obtain ⟨s5',ih⟩:=zIH (ps:=ps) hm C h s1 s3 is (acc ++ [.lst (((List.range m.toNat).filter λj=>decide (j≠i)).map λ(j:Nat)=>.tup ((yc h i j).map D.str))]) (.v (.int (0+(i:Int)))) (by simp;omega)
  refine ⟨s5',?_⟩
  have cr:=zPQ (m:=m) (ps:=ps) C h s1 s3 (.l acc) i (List.range m.toNat)
  have rg:iR1 (zB (b2 (gR 0) (zR 0) ixO) zN) [.v (dnD m ps),s1,.o none (hlO C h),s3,.l acc,.v (.int (i:Int))]=some (rng 0 m.toNat):=by
   refine zF5 ?_ (by omega)
   have i0:ixO (dnD m ps) (.int 0)=some (.int m):=by simp only [dnD,ixO,at0]
   rw [show ((m.toNat:Nat):Int)=m by omega]
   exists 0,i0
  have rl:(rng 0 m.toNat).length<=1000000:=by rw [zI6];omega
  have la:acc.length<16000000:=by omega
  have sc:zJ 1 (iR1 (zB (b2 (gR 0) (zR 0) ixO) zN)) (gN 6) (qp C) (zA2 C) [.v (dnD m ps),s1,.o none (hlO C h),s3,.l acc,.v (.int (i:Int))]=some (((List.range m.toNat).filter λj=>decide (j≠i)).map λ(j:Nat)=>.tup ((yc h i j).map D.str)):=by
   unfold zJ
   rw [rg,zUb,zUp rl]
   exact cr
  have st:qr C [.v (dnD m ps),s1,.o none (hlO C h),s3,.l acc,.v (.int (i:Int))]=some (.nx [.v (dnD m ps),s1,.o none (hlO C h),s3,.l (acc ++ [.lst (((List.range m.toNat).filter λj=>decide (j≠i)).map λ(j:Nat)=>.tup ((yc h i j).map D.str))]),.v (.int (i:Int))]):=by
   unfold qr zIN
   simp only [gL,zVB,zUv,zUb,zUp la,sc,zUx,zWb,zVt]
  have ez:(D.int (0+(i:Int)))=D.int (i:Int):=by rw [zWq]
  rw [ez] at ih
  rw [zUc,ez,zDk (ρ1:=[.v (dnD m ps),s1,.o none (hlO C h),s3,.l acc,.v (.int (i:Int))]) rfl st,ih,zUc,zVZ]
  rfl
theorem zKw (C:Addr) (h:Hl):zCK C (hlO C h) []=some (.tup (h.at'.map D.int)):=by
 refine qV λa=>?_
 have f1:=zNH C h
 exists 0,zLB,zG6,zFz,zC0,flR,f1
theorem zNV (C:Addr) (h:Hl):zBQ C "states" (hlO C h)=true:=zDD C h _ (by decide +kernel) (by decide +kernel) (by decide +kernel) (by decide +kernel)
theorem zQA {m:Int} {ps:List Pl} (hd:qL m ps) (hf:Few ps) (C:Addr) {P:List (List LG.St)} (hP:zAi ps (List.range m.toNat) P) (e:zAh C (.ins C []) [dnD m ps]=some (.ok (hlO C (q8 P)))) {vs:List Mv} (hl:vs.length<=800) {h':Hl} (p:zKv (q8 P) vs h') :
  q9 C [dnD m ps,.tup (vs.map mvD)]=some (zNg m h'):=by
 have hm0:=hd.m0
 have hm1:=hd.m1
 obtain ⟨H0,_⟩:=zKG hd hf hP
 have s1:zJp C 2 (zB (gV 0) zN) (zAh C) [.v (dnD m ps),.v (.tup (vs.map mvD)),.un,.un,.un,.un]=some (.nx [.v (dnD m ps),.v (.tup (vs.map mvD)),.o none (hlO C (q8 P)),.un,.un,.un]):=by
  unfold zJp
  rw [show (zB (gV 0) zN) [.v (dnD m ps),.v (.tup (vs.map mvD)),.un,.un,.un,.un]=some [dnD m ps] from rfl,zUb,e]
  rfl
 obtain ⟨s3,H',e2⟩:=zUP (m:=m) (ps:=ps) C (.v (.tup (vs.map mvD))) vs 0 (q8 P) h' .un H0 (by omega) p
 obtain ⟨s5,e3⟩:=zIH (ps:=ps) ⟨by omega,hm1⟩ C h' (.v (.tup (vs.map mvD))) s3 (List.range m.toNat) [] .un (by simp;omega)
 have rg:iR1 (zB (b2 (gR 0) (zR 0) ixO) zN) [.v (dnD m ps),.v (.tup (vs.map mvD)),.o none (hlO C h'),s3,.l [],.un]=some (rng 0 m.toNat):=by
  refine zF5 ?_ (by omega)
  have i0:ixO (dnD m ps) (.int 0)=some (.int m):=by simp only [dnD,ixO,at0]
  rw [show ((m.toNat:Nat):Int)=m by omega]
  exists 0,i0
 show (zAr C [.v (dnD m ps),.v (.tup (vs.map mvD)),.un,.un,.un,.un]).bind _=_
 unfold zAr
 rw [zt s1,zt ((zAz (ds:=vs.map mvD) rfl).trans e2),zt (ρ':=[.v (dnD m ps),.v (.tup (vs.map mvD)),.o none (hlO C h'),s3,.l [],.un]) rfl,zt ((zAz rg).trans e3),zVh]
 have m1:yk C "states" 2 zN (zCK C) [.v (dnD m ps),.v (.tup (vs.map mvD)),.o none (hlO C h'),s3,.v (zJE m h'),s5]=some (.tup (h'.at'.map D.int)):=qJ rfl (zNV C h') rfl (zKw C h')
 have m2:yk C "moves" 2 zN (yM C) [.v (dnD m ps),.v (.tup (vs.map mvD)),.o none (hlO C h'),s3,.v (zJE m h'),s5]=some (.tup ((mvs h').map mvD)):=qJ rfl (zDE C h') rfl (zNN H' C)
 show ((zAA (λρ=>((zB (yk C "states" 2 zN (zCK C)) (zB (gV 4) (zB (yk C "moves" 2 zN (yM C)) zN))) ρ).map D.tup)) [.v (dnD m ps),.v (.tup (vs.map mvD)),.o none (hlO C h'),s3,.v (zJE m h'),s5]).bind _=_
 rw [zMm (d:=zNg m h') ?g]
 ·rfl
 case g=>
  simp only [zB,m1,m2,zNd,zVB,zUv,zUb,zUx]
  rfl
theorem zNW (e h:Int):∀ (ps:List Pl) (k:Nat) (p:Pl),qZ e h ((ps.set k p).map plD)<=qZ e h (ps.map plD)+(chs p).length
 | [],k,p=>by simp [qZ]
 |q::ps,0,p=>by
  rw [zVt,zUc,zUc,qZ,qZ]
  have:zMh e h (plD p)<=(chs p).length:=by
   cases p with
   |fin=>simp [plD,zMh]
   |tell a b ch=>
    simp only [plD,zMh,chs,zUi]
    have:=zIt e h a b
    exact zVF (Nat.mul_le_mul_left _ this) (by omega)
  omega
 |q::ps,k+1,p=>by
  have:=zNW e h ps k p
  rw [zWb,zUc,zUc,qZ,qZ]
  omega
theorem hall2 {m:Int} {ps:List Pl} (hd:qL m ps) (hf:Few ps) (C:Addr):yO C [dnD m ps]=some (.v .non)\/∃ P,zAi ps (List.range m.toNat) P/\zAh C (.ins C []) [dnD m ps]=some (.ok (hlO C (q8 P)))/\yO C [dnD m ps]=some (.o none (hlO C (q8 P))):=by
 rcases zKI hd hf C with e|⟨P,hP,e⟩
 ·left
  rcases zPO hd hf C with e' | ⟨P',hP',e'⟩
  ·exact e'
  ·exfalso
   have go:yO C [dnD m ps]=some (.v .non):=by
    have g:yO C [dnD m ps]=(qQ C [.v (dnD m ps),.un]).bind zRJ:=rfl
    rw [g]
    unfold qQ
    have t:zCP C 1 (zB (gV 0) zN) (zAh C) 0 (qD 1 (λ_=>some D.non)) [.v (dnD m ps),.v .non]=some (.nx [.v (dnD m ps),.v .non]):=by
     unfold zCP
     rw [show (zB (gV 0) zN) [.v (dnD m ps),.v .non]=some [dnD m ps] from rfl,zUb,e]
     rfl
    rw [zt (ρ':=[.v (dnD m ps),.v .non]) rfl,zt t]
    rfl
   rw [go] at e';cases e'
 ·right
  refine ⟨P,hP,e,?_⟩
  have g:yO C [dnD m ps]=(qQ C [.v (dnD m ps),.un]).bind zRJ:=rfl
  rw [g]
  unfold qQ
  have t:zCP C 1 (zB (gV 0) zN) (zAh C) 0 (qD 1 (λ_=>some D.non)) [.v (dnD m ps),.v .non]=some (.nx [.v (dnD m ps),.o none (hlO C (q8 P))]):=by
   unfold zCP
   rw [show (zB (gV 0) zN) [.v (dnD m ps),.v .non]=some [dnD m ps] from rfl,zUb,e]
   rfl
  rw [zt (ρ':=[.v (dnD m ps),.v .non]) rfl,zt t]
  rfl
mutual
theorem eqD_refl:∀ d:D,eqD d d=true
 |.non=>by simp [eqD]
 |.bl b=>by simp [eqD]
 |.int i=>by simp [eqD]
 |.str x=>by simp [eqD]
 |.tup xs=>by simp only [eqD];exact eqL_refl xs
 |.lst xs=>by simp only [eqD];exact eqL_refl xs
theorem eqL_refl:∀ l:List D,eqL l l=true
 | []=>by simp [eqL]
 |d::l=>by simp only [eqL,eqD_refl d,eqL_refl l,Bool.and_self]
end
theorem zDv {α:Type} {f:α->D} {n:Nat}:∀ (l:List α),(∀ x∈l,dep (f x)<=n)->depL (l.map f)<=n
 | [],_=>by simp [depL]
 |x::l,h=>by
  have a:=h x zUd
  have b:=zDv l λy hy=>h y (zUY _ hy)
  simp only [zUc,depL];omega
theorem zSI (m:Int) (h:Hl):dep (zNg m h)<=20:=by
 have d1:depL (h.at'.map D.int)<=5:=zDv _ λx _=>by simp [dep]
 have d2:depL ((mvs h).map mvD)<=5:=zDv _ λv _=>by simp only [mvD,dep,depL];omega
 have d3:dep (zJE m h)<=10:=by
  unfold zJE
  simp only [dep]
  have:=zDv (f:=λ(i:Nat)=>D.lst (((List.range m.toNat).filter λj=>decide (j≠i)).map λ(j:Nat)=>.tup ((yc h i j).map D.str))) (n:=8) (List.range m.toNat) λi _=>by
   simp only [dep]
   have:=zDv (f:=λ(j:Nat)=>D.tup ((yc h i j).map D.str)) (n:=6) ((List.range m.toNat).filter λj=>decide (j≠i)) λj _=>by
    simp only [dep]
    have:=zDv (f:=D.str) (n:=4) (yc h i j) λw _=>by simp [dep]
    omega
   omega
  omega
 unfold zNg
 simp only [dep,depL]
 omega
theorem zUQ (m:Int) (h:Hl):neO (zNg m h) (zNg m h)=some (.bl false):=by
 unfold neO
 rw [zUp (by have:=zSI m h;omega),eqD_refl]
 rfl
theorem zUR {k:Nat} {h:Hl} (H:HOk k h) {v:Mv} (hv:v∈mvs h):qN [mvD v]=some (.int (v.who:Int)):=by
 obtain ⟨o,prs,n,w1,w2,w3,w4,w5⟩:=zDu H hv
 have i0:=zUH v
 have i1:=zSB v
 have i2:=zSC v
 have ek:eqO (.str (zFC v.t)) (.str "tell")=some (.bl v.t):=by
  rw [zGD,show Str.ofString "tell" = zFC true from rfl,zFG]
  cases v.t<;>rfl
 cases ht:v.t with
 |true=>
  rw [ht] at w5 ek i0
  simp only [zVU] at w5
  rw [w5.1] at i1
  exists qN,zBa,i0,i1,ek,eqL,zP,gN,gT,gCs,gNl,zj,zc,neO,zV,isO
 |false=>
  rw [ht] at w5 ek i0
  simp only [zVN,zVg] at w5
  rw [w5.1] at i2
  exists qN,zBa,i0,i2,ek,eqL,zP,gN,gT,gCs,gNl,zj,zc,neO,zV,isO
theorem turn {k:Nat} {h:Hl} (H:HOk k h) (hk:k<=900) (C:Addr) {P:List (List LG.St)} (p:zKv (q8 P) h.past h) {m:Int} {ps:List Pl} (c:Int) (s0 s4 s5 s6 s7 s8:Sl):∃ h' s4',HOk (k+1) h'/\zKv (q8 P) h'.past h'/\zFI C [s0,.v (dnD m ps),.o none (hlO C h),.v (.int c),s4,s5,s6,s7,s8]=some (.nx [s0,.v (dnD m ps),.o none (hlO C h'),.v (.int c),s4',s5,s6,s7,s8]):=by
 have mm:=zNN H C
 have s1:qD 4 (yk C "moves" 2 zN (yM C)) [s0,.v (dnD m ps),.o none (hlO C h),.v (.int c),s4,s5,s6,s7,s8]=some (.nx [s0,.v (dnD m ps),.o none (hlO C h),.v (.int c),.v (.tup ((mvs h).map mvD)),s5,s6,s7,s8]):=(zBV (qJ rfl (zDE C h) rfl mm)).trans rfl
 unfold zFI
 rw [zt s1]
 cases em:mvs h with
 |nil=>
  have H':HOk (k+1) h:=⟨H.len,H.m4,H.inn,H.st,Nat.le_succ_of_le H.rn,λq hq=>Nat.le_succ_of_le (H.rl q hq),Nat.le_succ_of_le H.pl⟩
  exact ⟨h,.v (.tup (([]:List Mv).map mvD)),H',p,rfl⟩
 |cons v0 vs=>
  have hn:(0:Int)<((mvs h).length:Int):=by rw [em];simp
  have x0:=yd c 9829 hn
  have x1:=ye c 9829 hn
  have mx:=qv (c:=c) (p:=9829) (m:=((mvs h).length:Int)) (by decide) hn
  obtain ⟨i,hi⟩:∃ i:Nat,mix c 9829 ((mvs h).length:Int)=(i:Int):=⟨(mix c 9829 ((mvs h).length:Int)).toNat,by omega⟩
  rw [hi] at x0 x1 mx
  have hlt:i<(mvs h).length:=by omega
  have ev:(mvs h)[i]?=some (mvs h)[i]:=by simp [hlt]
  have hv:(mvs h)[i]∈mvs h:=zWF _
  generalize (mvs h)[i]=v at ev hv
  obtain ⟨d1,d2,d3,d4⟩:=zP9 H (by omega) C hv
  have ix:ixO (.tup ((mvs h).map mvD)) (.int i)=some (mvD v):=zE1 (by simp [ev])
  refine ⟨doV h v,.v (.tup ((mvs h).map mvD)),d2,by rw [d4];exact p.snoc hv,?_⟩
  rw [<- em]
  have tr:zK9 (gR 4) [s0,.v (dnD m ps),.o none (hlO C h),.v (.int c),.v (.tup ((mvs h).map mvD)),s5,s6,s7,s8]=some true:=by
   rw [em];rfl
  unfold sIf
  rw [tr,zUb,zUp rfl]
  refine (zEL (ds:=[mvD v]) rfl (zUD C h) ?_ d1).trans rfl
  exists 0,mx,ix,zUi
theorem pair {k:Nat} {h:Hl} (H:HOk k h) (hk:k<=700) (C:Addr) {m:Int} {ps:List Pl} (hd:qL m ps) (hf:Few ps) {P:List (List LG.St)} (hP:zAi ps (List.range m.toNat) P) (e:zAh C (.ins C []) [dnD m ps]=some (.ok (hlO C (q8 P)))) (p:zKv (q8 P) h.past h) {v u:Mv} (hv:v∈mvs h) (hu:u∈mvs h) (s0 s2 s3 s4 s8:Sl) :
  ∃ s8',zFK C [s0,.v (dnD m ps),s2,s3,s4,.v (.tup (h.past.map mvD)),.v (mvD v),.v (mvD u),s8]=some (.nx [s0,.v (dnD m ps),s2,s3,s4,.v (.tup (h.past.map mvD)),.v (mvD v),.v (mvD u),s8']):=by
 have m1:=zUR H hv
 have m2:=zUR H hu
 have dn:neO (.int (v.who:Int)) (.int (u.who:Int))=some (.bl (!decide ((v.who:Int)=(u.who:Int)))):=by
  unfold neO;rw [zUp (by simp [dep])];unfold eqD;rw [zDm]
 by_cases c:v.who=u.who
 ·refine ⟨s8,?_⟩
  rw [zVk (by rw [c])] at dn
  unfold zFK
  exists m1,m2,dn,eqO,eqD,eqL,zP,gN,gT,gCs,gNl,zj,zc,zV,isO
 ·rw [zVH (by omega)] at dn
  obtain ⟨e1,e2,lk⟩:=zUN H hv hu c
  have pl:=H.pl
  have p1:=(p.snoc hv).snoc e1
  have p2:=(p.snoc hu).snoc e2
  have b1:=zQA hd hf C hP e (vs:=h.past ++ [v] ++ [u]) (by simp;omega) p1
  have b2':=zQA hd hf C hP e (vs:=h.past ++ [u] ++ [v]) (by simp;omega) p2
  rw [<- lk.beh (m:=m)] at b2'
  generalize hB:zNg m (doV (doV h v) u)=B at b1 b2'
  have nb:=zUQ m (doV (doV h v) u)
  rw [hB] at nb
  have nn:isO B .non=some (.bl false):=by rw [<- hB];rfl
  have a1:zV (.tup (h.past.map mvD)) (.tup [mvD v,mvD u])=some (.tup ((h.past ++ [v] ++ [u]).map mvD)):=by
   unfold zV
   simp only [zUp (show (h.past.map mvD).length + [mvD v,mvD u].length<=1000000 by simp;omega)]
   simp
  have a2:zV (.tup (h.past.map mvD)) (.tup [mvD u,mvD v])=some (.tup ((h.past ++ [u] ++ [v]).map mvD)):=by
   unfold zV
   simp only [zUp (show (h.past.map mvD).length + [mvD u,mvD v].length<=1000000 by simp;omega)]
   simp
  refine ⟨.v B,?_⟩
  unfold zFK
  exists m1,m2,dn,a1,a2,b1,b2',nn,nb,eqO,eqD,eqL,zP,gN,gT,gCs,gNl,zj,zc
theorem law_is (C:Addr) (ns:List Int) (hn:ns.length<=63):m_law C [.lst (ns.map D.int)]=some (.bl true):=by
 obtain ⟨m,ps0,e1,h0,_,c0⟩:=zOy ns
 have k4:zh [.lst (ns.map D.int),.int 4]=some (.int (ns.getD 4 0)):=zMc (by decide)
 obtain ⟨cs,e3,l3,_⟩:=zMo D.int ns (some 5) (some 20)
 have rest:∀ {ps:List Pl},qL m ps->Few ps->(sq (zEs 2 (zB (gV 1) zN) (yO C)) (sq (sIf (isN 2) (zAA (λ_=>some (D.bl true))) (λρ=>some (Out.nx ρ))) (sq (zf (iL (λρ=>((b3S (gR 0) (oI (zR 5)) (oI (zR 20)) slF) ρ).map D.lst)) (gN 3) (zFI C)) (sq (qD 5 (yk C "done" 2 zN (zGA C))) (sq (qD 4 (λρ=>((b3S (λρ=>((zJ 1 (iT (yk C "moves" 2 zN (yM C))) (gN 9) (λ_=>some true) (zFJ C)) ρ).map D.lst) (λ_=>some none) (oI (zR 4)) slF) ρ).map D.lst)) (sq (zf (iL (gV 4)) (gN 6) (zFL C)) (zAA (λ_=>some (D.bl true))))))))) [.v (.lst (ns.map D.int)),.v (dnD m ps),.un,.un,.un,.un,.un,.un,.un]=some (.rt (.bl true)):=λ{ps} hd hf=>by
  rcases hall2 hd hf C with e|⟨P,hP,ei,e⟩
  ·rw [zt (zGz (ds:=[dnD m ps]) rfl e)]
   exact zTo rfl
  ·rw [zt (zGz (ds:=[dnD m ps]) rfl e)]
   obtain ⟨H0,_⟩:=zKG hd hf hP
   obtain ⟨ρ',ef,h,s3,s4,H,p,rfl⟩:=zE8 (g:=gN 3) (F:=zFI C) (λk ρ=>∃ h s3 s4,HOk k h/\zKv (q8 P) h.past h/\ρ = [.v (.lst (ns.map D.int)),.v (dnD m ps),.o none (hlO C h),s3,s4,.un,.un,.un,.un]) 100 (ds:=cs.map D.int) (k:=0) (ρ:=[.v (.lst (ns.map D.int)),.v (dnD m ps),.o none (hlO C (q8 P)),.un,.un,.un,.un,.un,.un]) (by rw [zUi];omega) (by
    intro x hx k ρ hk hI
    obtain ⟨c,_,rfl⟩:=zVA.mp hx
    obtain ⟨h,s3,s4,H,p,rfl⟩:=hI
    obtain ⟨h',s4',H',p',e'⟩:=turn H (by omega) C p (m:=m) (ps:=ps) c (.v (.lst (ns.map D.int))) s4 .un .un .un .un
    exact ⟨_,e',h',_,_,H',p',rfl⟩) ⟨_,_,_,H0,rfl,rfl⟩
   have hk:0+(cs.map D.int).length<=63:=by rw [zUi];omega
   generalize 0+(cs.map D.int).length=k at H hk
   have i1:(sIf (isN 2) (zAA (λ_=>some (D.bl true))) (λρ=>some (Out.nx ρ))) ([.v (.lst (ns.map D.int)),.v (dnD m ps),.un,.un,.un,.un,.un,.un,.un].set 2 (.o none (hlO C (q8 P))))=some (.nx [.v (.lst (ns.map D.int)),.v (dnD m ps),.o none (hlO C (q8 P)),.un,.un,.un,.un,.un,.un]):=rfl
   obtain ⟨ms,em,lm,im⟩:=zMo mvD (mvs h) none (some 4)
   have s5:qD 5 (yk C "done" 2 zN (zGA C)) [.v (.lst (ns.map D.int)),.v (dnD m ps),.o none (hlO C h),s3,s4,.un,.un,.un,.un]=some (.nx [.v (.lst (ns.map D.int)),.v (dnD m ps),.o none (hlO C h),s3,s4,.v (.tup (h.past.map mvD)),.un,.un,.un]):=(zBV (qJ rfl (zR9 C h) rfl (zPK C h))).trans rfl
   have mm:yk C "moves" 2 zN (yM C) [.v (.lst (ns.map D.int)),.v (dnD m ps),.o none (hlO C h),s3,s4,.v (.tup (h.past.map mvD)),.un,.un,.un]=some (.tup ((mvs h).map mvD)):=qJ rfl (zDE C h) rfl (zNN H C)
   have cp:zP (gN 9) (λ_=>some true) (zFJ C) ((mvs h).map mvD) [.v (.lst (ns.map D.int)),.v (dnD m ps),.o none (hlO C h),s3,s4,.v (.tup (h.past.map mvD)),.un,.un,.un,.un]=some ((mvs h).map mvD):=by
    have:=z9 (g:=gN 9) (p:=λ_=>some true) (f:=zFJ C) (emb:=mvD) (ρ:=[.v (.lst (ns.map D.int)),.v (dnD m ps),.o none (hlO C h),s3,s4,.v (.tup (h.past.map mvD)),.un,.un,.un,.un]) (λ_=>true) mvD (mvs h) λv _=>⟨_,rfl,rfl,λ_=>rfl⟩
    rw [this,zVn.mpr (by simp)]
   have ml:(mvs h).length<=1000:=by
    unfold LG.mvs
    have:∀ l:List Nat,(l.flatMap (zCM h)).length<=18*l.length:=by
     intro l
     induction l with
     |nil=>simp
     |cons i l ih=>rw [zVI,zUr,zUa];have:=zIC H i;omega
    have:=this (List.range h.P.length)
    have:=H.m4
    simp only [zWj] at *
    omega
   have ml':(mvs h).length<=1000000:=by omega
   have s6:(qD 4 (λρ=>((b3S (λρ=>((zJ 1 (iT (yk C "moves" 2 zN (yM C))) (gN 9) (λ_=>some true) (zFJ C)) ρ).map D.lst) (λ_=>some none) (oI (zR 4)) slF) ρ).map D.lst)) [.v (.lst (ns.map D.int)),.v (dnD m ps),.o none (hlO C h),s3,s4,.v (.tup (h.past.map mvD)),.un,.un,.un]=some (.nx [.v (.lst (ns.map D.int)),.v (dnD m ps),.o none (hlO C h),s3,.v (.lst (ms.map mvD)),.v (.tup (h.past.map mvD)),.un,.un,.un]):=by
    generalize yk C "moves" 2 zN (yM C)=f1 at mm ⊢
    generalize hlO C h=O at *
    exists mm,cp,ml',em,zUi,eqO,eqD,eqL,gT,gCs,gNl,zc,neO,zV,isO
   have inner:∀ v∈ms,∀ s7 s8,∃ s7' s8',zFL C [.v (.lst (ns.map D.int)),.v (dnD m ps),.o none (hlO C h),s3,.v (.lst (ms.map mvD)),.v (.tup (h.past.map mvD)),.v (mvD v),s7,s8]=some (.nx [.v (.lst (ns.map D.int)),.v (dnD m ps),.o none (hlO C h),s3,.v (.lst (ms.map mvD)),.v (.tup (h.past.map mvD)),.v (mvD v),s7',s8']):=λv hv s7 s8=>by
    obtain ⟨ρ',ei',s7',s8',rfl⟩:=zGm (g:=gN 7) (F:=zFK C) (λρ=>∃ s7 s8,ρ = [.v (.lst (ns.map D.int)),.v (dnD m ps),.o none (hlO C h),s3,.v (.lst (ms.map mvD)),.v (.tup (h.past.map mvD)),.v (mvD v),s7,s8]) (ds:=ms.map mvD) (ρ:=[.v (.lst (ns.map D.int)),.v (dnD m ps),.o none (hlO C h),s3,.v (.lst (ms.map mvD)),.v (.tup (h.past.map mvD)),.v (mvD v),s7,s8]) (by
     intro x hx ρ hI
     obtain ⟨u,hu,rfl⟩:=zVA.mp hx
     obtain ⟨t7,t8,rfl⟩:=hI
     obtain ⟨t8',e'⟩:=pair H (by omega) C hd hf hP ei p (im v hv) (im u hu) (.v (.lst (ns.map D.int))) (.o none (hlO C h)) s3 (.v (.lst (ms.map mvD))) t8
     exact ⟨_,e',_,_,rfl⟩) ⟨_,_,rfl⟩
    refine ⟨s7',s8',?_⟩
    unfold zFL
    exact (zAz (ds:=ms.map mvD) rfl).trans ei'
   obtain ⟨ρ',eo,s6',s7',s8',rfl⟩:=zGm (g:=gN 6) (F:=zFL C) (λρ=>∃ s6 s7 s8,ρ = [.v (.lst (ns.map D.int)),.v (dnD m ps),.o none (hlO C h),s3,.v (.lst (ms.map mvD)),.v (.tup (h.past.map mvD)),s6,s7,s8]) (ds:=ms.map mvD) (ρ:=[.v (.lst (ns.map D.int)),.v (dnD m ps),.o none (hlO C h),s3,.v (.lst (ms.map mvD)),.v (.tup (h.past.map mvD)),.un,.un,.un]) (by
    intro x hx ρ hI
    obtain ⟨v,hv,rfl⟩:=zVA.mp hx
    obtain ⟨t6,t7,t8,rfl⟩:=hI
    obtain ⟨t7',t8',e'⟩:=inner v hv t7 t8
    exact ⟨_,e',_,_,_,rfl⟩) ⟨_,_,_,rfl⟩
   rw [zt i1,zt ((zAz (ds:=cs.map D.int) ?_).trans ef),zt s5,zt s6,zt ((zAz (ds:=ms.map mvD) rfl).trans eo)]
   ·rfl
   ·exists e3,eqO,eqD,eqL,zP,gN,gT,gCs,gNl,zc,neO,zV,isO
 have s1:qD 1 (λρ=>((zB (gV 0) zN) ρ).bind qh) [.v (.lst (ns.map D.int)),.un,.un,.un,.un,.un,.un,.un,.un]=some (.nx [.v (.lst (ns.map D.int)),.v (dnD m ps0),.un,.un,.un,.un,.un,.un,.un]):=(zBV e1).trans rfl
 show (zPP C [.v (.lst (ns.map D.int)),.un,.un,.un,.un,.un,.un,.un,.un]).bind _=_
 unfold zPP
 rw [zt s1]
 by_cases ev:ns.getD 4 0%3=0
 ·obtain ⟨ps,h,_,⟨k,p,rfl,hp⟩,e5⟩:=zMs h0 (ns.getD 4 0/3)
  have hf:Few (ps0.set k p):=λe h=>zVF (zNW e h ps0 k p) (by have:=c0 e h;omega)
  have s2:(sIf (bB (b2 (b2 (λρ=>((zB (gV 0) (zB (zR 4) zN)) ρ).bind zh) (zR 3) zGV) (zR 0) eqO)) (qD 1 (λρ=>((zB (gV 1) (zB (b2 (λρ=>((zB (gV 0) (zB (zR 4) zN)) ρ).bind zh) (zR 3) zKZ) zN)) ρ).bind yi)) (λρ=>some (Out.nx ρ))) [.v (.lst (ns.map D.int)),.v (dnD m ps0),.un,.un,.un,.un,.un,.un,.un]=some (.nx [.v (.lst (ns.map D.int)),.v (dnD m (ps0.set k p)),.un,.un,.un,.un,.un,.un,.un]):=by
   exists 0,k4,ev,e5,zUz,Int.reduceBEq,ixO
  rw [zt s2,rest h hf]
  rfl
 ·have hf:Few ps0:=λe h=>zVF (c0 e h) (by decide)
  have ev':(ns.getD 4 0%3 == 0)=false:=zVJ.mpr ev
  have s2:(sIf (bB (b2 (b2 (λρ=>((zB (gV 0) (zB (zR 4) zN)) ρ).bind zh) (zR 3) zGV) (zR 0) eqO)) (qD 1 (λρ=>((zB (gV 1) (zB (b2 (λρ=>((zB (gV 0) (zB (zR 4) zN)) ρ).bind zh) (zR 3) zKZ) zN)) ρ).bind yi)) (λρ=>some (Out.nx ρ))) [.v (.lst (ns.map D.int)),.v (dnD m ps0),.un,.un,.un,.un,.un,.un,.un]=some (.nx [.v (.lst (ns.map D.int)),.v (dnD m ps0),.un,.un,.un,.un,.un,.un,.un]):=by
   exists 0,k4,ev',zUz,Int.reduceBEq,ixO
  rw [zt s2,rest h0 hf]
  rfl
end K09
namespace K09
open PySem PySem.Spec PyProof.Rows L2 RD LG
local macro_rules|`(tactic|left)=>`(tactic|kernel_rfl)
local macro_rules|`(tactic|right)=>`(tactic|exact ⟨rfl,rfl,rfl,by decide +kernel,rfl,by decide +kernel,by decide +kernel⟩)
structure Cl (K:Fg) (mg:MGt) (C:Addr) (κ:Nat->Addr):Prop where
 hK:Cls K C
 hA_parts:qO K C "parts"
 hA_at:qO K C "at"
 hA_rows:qO K C "rows"
 hA_past:qO K C "past"
 hE_NoPart:zQ8 K (κ 0)
 hM_NoPart:mg "NoPart" = some (.ref (κ 0))
section
variable {P:Program} {w:World} {K:Fg} {mg:MGt} {base:Heap} {κ:Nat->Addr} {C:Addr}
abbrev TD (P:Program) (w:World) (K:Fg) (mg:MGt) (base:Heap) (k:Nat) (N:List Str) (q:Str) (st:Stmt) (F:ROo):Prop:=∀ {fa:Addr} (cdv:Value) (A:Around) (outer:List Env) (s:Shared) (H:Hp),zAO k (A.deeper (envOfC q (zH st) s.heap.objs.size fa cdv))->SSs (zGM CX0 P w K mg base N q (zH st) fa cdv A outer s H E0).nox (yE st) F
abbrev TX (P:Program) (w:World) (K:Fg) (mg:MGt) (base:Heap) (κ:Nat->Addr) (k:Nat) (N:List Str) (q:Str) (st:Stmt) (F:Rho->Option zAy):Prop:=∀ {fa:Addr} (cdv:Value) (A:Around) (outer:List Env) (s:Shared) (H:Hp) (E:XK),zAO k (A.deeper (envOfC q (zH st) s.heap.objs.size fa cdv))->SXs (cxE P w K mg base N q (zH st) fa cdv A outer s H E) κ E (yE st) F
theorem zKx:zT zEv ["_law_cell_here","_law_prime","_law_many"] (zH zEM):=by right
theorem zNX  (hT:Bl mg) (hCl:Cl K mg C κ):TD P w K mg base 0 zEv "_law_mix" zEM zEw:=by
 intro fa cdv A outer s H hr
 exact (zO (zv (zb zAD (zE (zb zAD (zE (zb zCd (zC 0 (pv 0)) (zE zF))) (zC 1 (pv 1)))) (zC 2 (pv 2)))))
theorem zJF:zT zDd ["_law_script","_law_k"] (zH zDJ):=by right
theorem zKy  (hT:Bl mg) (hCl:Cl K mg C κ):TD P w K mg base 0 zDd "_law_cell" zDJ zCG:=by
 intro fa cdv A outer s H hr
 exact (zI (qS (yW (zPl) (zC 1 (pv 1)) (zE (yA zx (gl (by left)) hT.len zVL (zC 0 (pv 0)))) (z6 _)) (zO (zv (zX (zC 0 (pv 0)) (zC 1 (pv 1))))) yJ) (zO (zv zF)))
theorem zFb:zT zBT ["_law_cell_here","_law_many"] (zH zBI):=by right
theorem zG7  (hT:Bl mg) (hCl:Cl K mg C κ):TD P w K mg base 0 zBT "_law_is_late" zBI zAH:=by
 intro fa cdv A outer s H hr
 have hu:=zHk hr
 exact (zO (zv (zHY (zEX (yt hu) (zE (zb zAD (zC 0 (pv 0)) (zE zF))) (zE zF) (z6 _)) (zHX (zEX (zFm) (zC 1 (pv 1)) (zE zF) (z6 _))))))
theorem zBe:zT zAW ["_law_start","_law_goals","_law_one","_law_others","_law_words"] (zH zAK):=by right
theorem zFM  (hT:Bl mg) (hCl:Cl K mg C κ):TD P w K mg base 0 zAW "_law_told_late" zAK zBz:=by
 intro fa cdv A outer s H hr
 have hu:=zHk hr
 have hN:=zBe.nd
 exact (zI (qc 5 (qE zG) hN (by left) (.inl (by left))) (zI (qc 6 (qE zG) hN (by left) (.inl (by left))) (zI (zp 7 (yA zx (gl (by left)) hT.len zVL (zC 3 (pv 3))) hN (by left) (.inl (by left))) (zI (zAG zVQ rfl (zIf (gl (by left)) hT.enumerate (zD 4 (pv 4))) (zDz rfl (yX (zW 8 hN (by left) (.inl (by left)) (.inl rfl)) (yX (zW 9 hN (by left) (.inl (by left)) (.inl rfl)) zBt))) (zI (zp 10 (zb zU (zE (zb zU (zC 0 (pv 0)) (zE zF))) (zE (zb zCd (zC 8 (pv 8)) (zC 7 (pv 7))))) hN (by left) (.inl (by left))) (zI (yu 6 (pv 6) (zY (zA (zD 9 (pv 9)) (zA (zD 10 (pv 10)) zG)))) (zI (yu 5 (pv 5) (zY (zA yH (zA (zD 2 (pv 2)) (zA (zX (zC 3 (pv 3)) (zE zF)) (zA (zY (zA (zY (zA (zX (zC 4 (pv 4)) (zE zF)) (zA (zb zU (zC 10 (pv 10)) (zE zF)) zG))) zG)) zG)))))) (zO (zAG zVQ rfl (zLq (gl (by left)) hT.range (zA zF (zA (zD 7 (pv 7)) zG))) (zW 11 hN (by left) (.inl (by left)) (.inl rfl)) (zI (zp 12 (zX (zE (zg (qE (zA (zb zU (zE (zb zU (zC 10 (pv 10)) (zC 11 (pv 11)))) (zE zF)) (zA (zX (zC 1 (pv 1)) (zC 8 (pv 8))) zG))))) (zE (yI zEb (gl (by left)) hT.int zOA (zE (zEX (yt hu) (zC 11 (pv 11)) (zE (zb zAU (zC 7 (pv 7)) (zE zF))) (z6 _)))))) hN (by left) (.inl (by left))) (zO (yu 5 (pv 5) (zY (zA yH (zA (zX (zC 3 (pv 3)) (zE zF)) (zA (zX (zC 3 (pv 3)) (zC 11 (pv 11))) (zA (zY (zA (zY (zA (zD 9 (pv 9)) (zA (zD 12 (pv 12)) zG))) zG)) zG)))))))))))))) (zO (zv (zg (zHa (zE (zg (qE (zA (zY (zA yH (zA (zD 2 (pv 2)) (zA (zX (zC 3 (pv 3)) (zE zF)) (zA (yI yo (gl (by left)) hT.tuple zAE (zC 6 (pv 6))) zG))))) zG)))) (zC 5 (pv 5))))))))))
theorem zFN:zT zDe ["_law_cell_here","_law_j"] (zH zDK):=by right
theorem zKz (h_law_mix:z7 P w K mg base 1 "_law_mix" 3 zS) (hT:Bl mg) (hCl:Cl K mg C κ):TD P w K mg base 1 zDe "_law_word" zDK zDf:=by
 intro fa cdv A outer s H hr
 have hN:=zFN.nd
 exact (zI (zp 2 yH hN (by left) (.inr (by left))) (zI (zp 3 (zX (zC 2 (pv 2)) (zE (zb zAD (zE (zb zU (zE (zL h_law_mix (hr.mono (by decide)) (by left) rfl (zA (zD 0 (pv 0)) (zA zF (zA zF zG))))) (zE (zb zCd (zE zF) (zC 1 (pv 1)))))) (zE zF)))) hN (by left) (.inl (by left))) (zI (zp 4 (zQy (zE (zg (qg (nm:=["_law_k"]) (m:=1) rfl rfl (by left) (by left) (yn (gl (by left)) hT.range (zA (zL h_law_mix (hr.mono (by decide)) (by left) rfl (zA (zD 0 (pv 0)) (zA zF (zA zF zG)))) zG)) (yB (show 6<=6 by decide)) (λC s₃ H₃ ex=>(zW 6 (yZ (nm:=["_law_k"]) (by left)) (by left) (.inl (by left)) (.inr (by left)))) (λC s₃ H₃ ex=>.inl ⟨rfl,rfl⟩) (λC s₃ H₃ ex=>(zX (zC 2 (pv 2)) (zE (zL h_law_mix (hr.mono (by decide)) (by left) rfl (zA (zb zU (zC 0 (pv 0)) (zE (zb zCd (zE zF) (zC 6 (pv 6))))) (zA zF (zA zF zG))))))))))) hN (by left) (.inl (by left))) (zI (zp 5 (zL h_law_mix (hr.mono (by decide)) (by left) rfl (zA (zD 0 (pv 0)) (zA zF (zA (zb zU (zE (yA zx (gl (by left)) hT.len zVL (zC 4 (pv 4)))) (zE zF)) zG)))) hN (by left) (.inl (by left))) (zO (zv (zb zU (zE (zb zU (zE (qH (zC 4 (pv 4)) qd (qK (zD 5 (pv 5))))) (zC 3 (pv 3)))) (zE (qH (zC 4 (pv 4)) (qK (zD 5 (pv 5))) qd)))))))))
theorem zCV:zT yx ["_law_cell_here","_law_start","_law_many","_law_goals"] (zH zBJ):=by right
theorem zG8 (h_law_mix:z7 P w K mg base 1 "_law_mix" 3 zS) (h_law_is_late:z7 P w K mg base 1 "_law_is_late" 2 yS) (h_law_told_late:z7 P w K mg base 1 "_law_told_late" 5 zl) (h_law_word:z7 P w K mg base 2 "_law_word" 2 yN) (hT:Bl mg) (hCl:Cl K mg C κ):TD P w K mg base 2 yx "_law_told_on" zBJ zC5:=by
 intro fa cdv A outer s H hr
 have hN:=zCV.nd
 exact (zI (zp 4 (zL h_law_mix (hr.mono (by decide)) (by left) rfl (zA (zD 0 (pv 0)) (zA zF (zA (zD 2 (pv 2)) zG)))) hN (by left) (.inr (by left))) (zI (zDc 5 (nm:=["_law_k"]) (m:=1) rfl rfl (by left) (by left) (yn (gl (by left)) hT.range (zA (zb zAU (zC 2 (pv 2)) (zE zF)) zG)) (yB (show 13<=13 by decide)) (λC s₃ H₃ ex=>(zW 13 (yZ (nm:=["_law_k"]) (by left)) (by left) (.inl (by left)) (.inr (by left)))) (λC s₃ H₃ ex=>.inl ⟨rfl,rfl⟩) (λC s₃ H₃ ex=>(zb zAD (zE (zb zU (zE (zb zU (zC 4 (pv 4)) (zE zF))) (zE (zb zAD (zE (zb zU (zC 13 (pv 13)) (zE (zL h_law_mix (hr.mono (by decide)) (by left) rfl (zA (zD 0 (pv 0)) (zA zF (zA (zb zAU (zC 2 (pv 2)) (zE zF)) zG))))))) (zE (zb zAU (zC 2 (pv 2)) (zE zF))))))) (zC 2 (pv 2)))) hN (by left) (.inl (by left))) (zI (zp 6 (zg (zJY zFp (gl (by left)) hT.sorted zEG (zE (zg (qg (nm:=["_law_j"]) (m:=1) rfl rfl (by left) (by left) (yn (gl (by left)) hT.range (zA (zb zU (zE zF) (zE (zL h_law_mix (hr.mono (by decide)) (by left) rfl (zA (zD 0 (pv 0)) (zA zF (zA zF zG)))))) zG)) (yB (show 13<=13 by decide)) (λC s₃ H₃ ex=>(zW 13 (yZ (nm:=["_law_j"]) (by left)) (by left) (.inl (by left)) (.inr (by left)))) (λC s₃ H₃ ex=>.inl ⟨rfl,rfl⟩) (λC s₃ H₃ ex=>(zL h_law_word (hr.mono (by decide)) (by left) rfl (zA (zD 0 (pv 0)) (zA (zD 13 (pv 13)) zG))))))))) hN (by left) (.inl (by left))) (zI (qS (zEY (zE (zL h_law_is_late (hr.mono (by decide)) (by left) rfl (zA (zD 0 (pv 0)) (zA (zD 2 (pv 2)) zG))))) (zO (zv (zL h_law_told_late (hr.mono (by decide)) (by left) rfl (zA (zD 1 (pv 1)) (zA (zD 3 (pv 3)) (zA (zD 4 (pv 4)) (zA (zD 5 (pv 5)) (zA (zD 6 (pv 6)) zG)))))))) yJ) (zI (qc 7 (qE zG) hN (by left) (.inl (by left))) (zI (qc 8 (qE zG) hN (by left) (.inl (by left))) (zI (zAG zVQ rfl (zIf (gl (by left)) hT.enumerate (zD 6 (pv 6))) (zDz rfl (yX (zW 9 hN (by left) (.inr (by left)) (.inl rfl)) (yX (zW 10 hN (by left) (.inl (by left)) (.inl rfl)) zBt))) (zI (zp 11 (zg (zHa (zE (zg (qg (nm:=["_law_k"]) (m:=1) rfl rfl (by left) (by left) (yn (gl (by left)) hT.range (zA (zb zAU (zC 2 (pv 2)) (zE zF)) zG)) (yB (show 13<=13 by decide)) (λC s₃ H₃ ex=>(zW 13 (yZ (nm:=["_law_k"]) (by left)) (by left) (.inl (by left)) (.inr (by left)))) (λC s₃ H₃ ex=>.inl ⟨rfl,rfl⟩) (λC s₃ H₃ ex=>(zb zU (zE (zb zU (zE (zb zU (zC 1 (pv 1)) (zE zF))) (zE (zb zCd (zC 9 (pv 9)) (zE (zb zAU (zC 2 (pv 2)) (zE zF))))))) (zC 13 (pv 13))))))) (zE (zg (qE (zA (zX (zC 3 (pv 3)) (zC 9 (pv 9))) zG)))))) hN (by left) (.inl (by left))) (zI (yu 8 (pv 8) (zY (zA (zD 10 (pv 10)) (zA (zX (zC 11 (pv 11)) (zE zF)) zG)))) (zO (zAG zVQ rfl (yn (gl (by left)) hT.range (zA (zb zAU (zC 2 (pv 2)) (zE zF)) zG)) (zW 12 hN (by left) (.inl (by left)) (.inl rfl)) (zO (yu 7 (pv 7) (zY (zA yH (zA (zD 4 (pv 4)) (zA (zX (zC 5 (pv 5)) (zE (zb zU (zC 12 (pv 12)) (zE zF)))) (zA (zY (zA (zY (zA (zD 10 (pv 10)) (zA (zX (zC 11 (pv 11)) (zE (zb zU (zC 12 (pv 12)) (zE zF)))) zG))) zG)) zG)))))))))))) (zO (zv (zg (zHa (zE (zg (qE (zA (zY (zA yH (zA (zD 4 (pv 4)) (zA (zX (zC 5 (pv 5)) (zE zF)) (zA (yI yo (gl (by left)) hT.tuple zAE (zC 8 (pv 8))) zG))))) zG)))) (zC 7 (pv 7)))))))))))))
theorem zFO:zT zDg ["_law_cell_here","_law_many"] (zH zDL):=by right
theorem zK0 (h_law_is_late:z7 P w K mg base 1 "_law_is_late" 2 yS) (h_law_mix:z7 P w K mg base 1 "_law_mix" 3 zS) (hT:Bl mg) (hCl:Cl K mg C κ):TD P w K mg base 1 zDg "_law_size" zDL zDh:=by
 intro fa cdv A outer s H hr
 have hN:=zFO.nd
 exact (zI (zp 2 (zb zU (zE (zb zAU (zC 1 (pv 1)) (zE zF))) (zE (yI zEb (gl (by left)) hT.int zOA (zE (zL h_law_is_late (hr.mono (by decide)) (by left) rfl (zA (zD 0 (pv 0)) (zA (zD 1 (pv 1)) zG))))))) hN (by left) (.inl (by left))) (zO (zv (zb zU (zE (zb zU (zE zF) (zE (zb zCd (zE (zb zU (zE zF) (zE (zL h_law_mix (hr.mono (by decide)) (by left) rfl (zA (zD 0 (pv 0)) (zA zF (zA zF zG))))))) (zC 2 (pv 2)))))) (zE (yI zEb (gl (by left)) hT.int zOA (zE (zEX (zFm) (zE (zL h_law_mix (hr.mono (by decide)) (by left) rfl (zA (zD 0 (pv 0)) (zA zF (zA zF zG))))) (zE zF) (z6 _)))))))))
theorem zBf:zT zAX ["_law_cell_here","_law_here","_law_many","_law_goal"] (zH zAL):=by right
theorem zFP (h_law_mix:z7 P w K mg base 1 "_law_mix" 3 zS) (h_law_word:z7 P w K mg base 2 "_law_word" 2 yN) (hT:Bl mg) (hCl:Cl K mg C κ):TD P w K mg base 2 zAX "_law_apart_two" zAL yv:=by
 intro fa cdv A outer s H hr
 have hu:=zHk hr
 have hN:=zBf.nd
 exact (zI (zp 4 (zL h_law_mix (hr.mono (by decide)) (by left) rfl (zA (zD 0 (pv 0)) (zA zF (zA (zD 2 (pv 2)) zG)))) hN (by left) (.inl (by left))) (zI (zp 5 (zb zAD (zE (zb zU (zE (zb zU (zC 4 (pv 4)) (zE zF))) (zE (zL h_law_mix (hr.mono (by decide)) (by left) rfl (zA (zD 0 (pv 0)) (zA zF (zA (zb zAU (zC 2 (pv 2)) (zE zF)) zG))))))) (zC 2 (pv 2))) hN (by left) (.inl (by left))) (zI (zp 6 (zg (zJY zFp (gl (by left)) hT.sorted zEG (zE (zg (qE (zA (zL h_law_word (hr.mono (by decide)) (by left) rfl (zA (zb zU (zC 0 (pv 0)) (zE zF)) (zA zF zG))) (zA (zL h_law_word (hr.mono (by decide)) (by left) rfl (zA (zb zU (zC 0 (pv 0)) (zE zF)) (zA zF zG))) zG))))))) hN (by left) (.inl (by left))) (zI (qS (yW (yt hu) (zE (zL h_law_mix (hr.mono (by decide)) (by left) rfl (zA (zD 0 (pv 0)) (zA zF (zA zF zG))))) (zE zF) (z6 _)) (zO (zv (zY (zA yH (zA (zD 4 (pv 4)) (zA (zD 5 (pv 5)) (zA (zY (zA (zY (zA (zX (zC 6 (pv 6)) (zE zF)) (zA (zD 3 (pv 3)) zG))) zG)) zG))))))) yJ) (zO (zv (zY (zA yH (zA (zD 4 (pv 4)) (zA (zD 5 (pv 5)) (zA (zY (zA (zY (zA (zX (zC 6 (pv 6)) (zE zF)) (zA (zX (zE (zg (qE (zA (zD 1 (pv 1)) (zA (zD 3 (pv 3)) zG))))) (zE (zb zAD (zC 0 (pv 0)) (zE zF)))) zG))) (zA (zY (zA (zX (zC 6 (pv 6)) (zE zF)) (zA (zX (zE (zg (qE (zA (zD 3 (pv 3)) (zA (zD 1 (pv 1)) zG))))) (zE (zb zAD (zC 0 (pv 0)) (zE zF)))) zG))) zG))) zG)))))))))))
theorem zD6:zT zCi ["_law_script"] (zH zCY):=by right
theorem zJG (h_law_mix:z7 P w K mg base 1 "_law_mix" 3 zS) (h_law_cell:z7 P w K mg base 1 "_law_cell" 2 zh) (h_law_told_on:z7 P w K mg base 3 "_law_told_on" 4 zZ) (h_law_size:z7 P w K mg base 2 "_law_size" 2 zBB) (h_law_apart_two:z7 P w K mg base 3 "_law_apart_two" 4 yK) (hT:Bl mg) (hCl:Cl K mg C κ):TD P w K mg base 3 zCi "_law_dance" zCY zBU:=by
 intro fa cdv A outer s H hr
 have hN:=zD6.nd
 exact (zI (zp 1 (zb zU (zE zF) (zE (zL h_law_mix (hr.mono (by decide)) (by left) rfl (zA (zL h_law_cell (hr.mono (by decide)) (by left) rfl (zA (zD 0 (pv 0)) (zA zF zG))) (zA zF (zA zF zG)))))) hN (by left) (.inl (by left))) (zI (zDc 2 (nm:=["_law_k"]) (m:=1) rfl rfl (by left) (by left) (yn (gl (by left)) hT.range (zA (zb zU (zE zF) (zE (zL h_law_mix (hr.mono (by decide)) (by left) rfl (zA (zL h_law_cell (hr.mono (by decide)) (by left) rfl (zA (zD 0 (pv 0)) (zA zF zG))) (zA zF (zA zF zG)))))) zG)) (yB (show 9<=9 by decide)) (λC s₃ H₃ ex=>(zW 9 (yZ (nm:=["_law_k"]) (by left)) (by left) (.inl (by left)) (.inr (by left)))) (λC s₃ H₃ ex=>.inl ⟨rfl,rfl⟩) (λC s₃ H₃ ex=>(zL h_law_cell (hr.mono (by decide)) (by left) rfl (zA (zD 0 (pv 0)) (zA (zb zU (zE zF) (zC 9 (pv 9))) zG)))) hN (by left) (.inl (by left))) (zI (qc 3 (qE (zA zF zG)) hN (by left) (.inr (by left))) (zI (zAG zVQ rfl (zBO (zD 2 (pv 2))) (zW 4 hN (by left) (.inr (by left)) (.inl rfl)) (zO (yu 3 (pv 3) (zb zU (zE (zX (zC 3 (pv 3)) (zE (zHZ (zE zF))))) (zE (zL h_law_size (hr.mono (by decide)) (by left) rfl (zA (zD 4 (pv 4)) (zA (zD 1 (pv 1)) zG)))))))) (zI (qc 5 (qE zG) hN (by left) (.inl (by left))) (zI (zAG zVQ rfl (zIf (gl (by left)) hT.enumerate (zD 2 (pv 2))) (zDz rfl (yX (zW 6 hN (by left) (.inl (by left)) (.inl rfl)) (yX (zW 4 hN (by left) (.inr (by left)) (.inl rfl)) zBt))) (zI (zIo 7 (nm:=["_law_j"]) (m:=1) rfl rfl (by left) (by left) (yn (gl (by left)) hT.range (zA zF zG)) (yB (show 9<=9 by decide)) (λC s₃ H₃ ex=>(zW 9 (yZ (nm:=["_law_j"]) (by left)) (by left) (.inl (by left)) (.inr (by left)))) (λC s₃ H₃ ex=>.inl ⟨rfl,rfl⟩) (λC s₃ H₃ ex=>(zX (zC 3 (pv 3)) (zE (zL h_law_mix (hr.mono (by decide)) (by left) rfl (zA (zb zU (zC 4 (pv 4)) (zE (zb zCd (zE zF) (zC 9 (pv 9))))) (zA zF (zA (yA zx (gl (by left)) hT.len zVL (zC 3 (pv 3))) zG))))))) hN (by left) (.inl (by left))) (zI (zp 8 (zX (zC 7 (pv 7)) (zE zF)) hN (by left) (.inl (by left))) (zI (qS (yW (zFm) (zE (zL h_law_mix (hr.mono (by decide)) (by left) rfl (zA (zD 4 (pv 4)) (zA zF (zA zF zG))))) (zE zF) (z6 _)) (zO (zN9 7 (pv 7) zF (zb zAU (zE (zX (zC 3 (pv 3)) (zE (zb zU (zC 6 (pv 6)) (zE zF))))) (zE zF)))) yJ) (zPg 7 (zI (qc 5 (zHa (zC 5 (pv 5)) (zE (zL h_law_told_on (hr.mono (by decide)) (by left) rfl (zA (zD 4 (pv 4)) (zA (zX (zC 3 (pv 3)) (zC 6 (pv 6))) (zA (zD 1 (pv 1)) (zA (zD 7 (pv 7)) zG))))))) hN (by left) (.inl (by left))) (zO (qS (yW (zFm) (zE (zL h_law_mix (hr.mono (by decide)) (by left) rfl (zA (zD 4 (pv 4)) (zA zF (zA zF zG))))) (zE zF) (z6 _)) (zO (yu 5 (pv 5) (zL h_law_apart_two (hr.mono (by decide)) (by left) rfl (zA (zD 4 (pv 4)) (zA (zb zAU (zE (zX (zC 3 (pv 3)) (zE (zb zU (zC 6 (pv 6)) (zE zF))))) (zE zF)) (zA (zD 1 (pv 1)) (zA (zD 8 (pv 8)) zG))))))) yJ)))))))) (zO (zv (zY (zA (zD 1 (pv 1)) (zA (yI yo (gl (by left)) hT.tuple zAE (zE (zg (zHa (zC 5 (pv 5)) (zE (zg (qE (zA (zY (zA yH zG)) zG)))))))) zG)))))))))))
theorem zG9:zT zB2 ["place","dancer"] (zH zBm):=by right
theorem zII  (hT:Bl mg) (hCl:Cl K mg C κ):TD P w K mg base 0 zB2 "takes_part" zBm zAm:=by
 intro fa cdv A outer s H hr
 have hu:=zHk hr
 exact (zO (zv (zHY (zEX (yt hu) (zE (zX (zC 0 (pv 0)) (zE zF))) (zE yH) (z6 _)) (zHX (zTK hu (zD 1 (pv 1)) (zE (zY (zA (zX (zC 0 (pv 0)) (zE zF)) (zA (zX (zC 0 (pv 0)) (zE zF)) zG)))) (by rfl))))))
theorem zK1:zT zE3 ["place","dancer"] (zH zEN):=by right
theorem zNY (h_takes_part:z7 P w K mg base 1 "takes_part" 2 yh) (hT:Bl mg) (hCl:Cl K mg C κ):TD P w K mg base 1 zE3 "is_turn" zEN zC7:=by
 intro fa cdv A outer s H hr
 have hu:=zHk hr
 exact (zO (zv (se_or (zEX (yt hu) (zE (zX (zC 0 (pv 0)) (zE zF))) (zE yH) (z6 _)) (zHX (zL h_takes_part (hr.mono (by decide)) (by left) rfl (zA (zD 0 (pv 0)) (zA (zD 1 (pv 1)) zG)))))))
theorem zCW:zT zBW ["dance","dancer","some"] (zH zBK):=by right
theorem zHA (h_is_turn:z7 P w K mg base 2 "is_turn" 2 zBF) (hT:Bl mg) (hCl:Cl K mg C κ):TD P w K mg base 2 zBW "turns_among" zBK zBX:=by
 intro fa cdv A outer s H hr
 have hN:=zCW.nd
 exact (zI (zDc 3 (nm:=["number"]) (m:=1) rfl rfl (by left) (by left) (zCp (zD 2 (pv 2))) (yB (show 4<=4 by decide)) (λC s₃ H₃ ex=>(zW 4 (yZ (nm:=["number"]) (by left)) (by left) (.inl (by left)) (.inr (by left)))) (λC s₃ H₃ ex=>.inl ⟨rfl,rfl⟩) (λC s₃ H₃ ex=>(zX (zE (zX (zC 0 (pv 0)) (zE zF))) (zC 4 (pv 4)))) hN (by left) (.inl (by left))) (zO (zv (zg (qg (nm:=["place"]) (m:=1) rfl rfl (by left) (by left) (zBO (zD 3 (pv 3))) (yB (show 4<=4 by decide)) (λC s₃ H₃ ex=>(zW 4 (yZ (nm:=["place"]) (by left)) (by left) (.inl (by left)) (.inr (by left)))) (λC s₃ H₃ ex=>.inr ⟨_,rfl,(zEY (zE (zL h_is_turn (hr.mono (by decide)) (by left) rfl (zA (zD 4 (pv 4)) (zA (zD 1 (pv 1)) zG)))))⟩) (λC s₃ H₃ ex=>(zD 4 (pv 4))))))))
theorem zHB:zT zB1 ["place"] (zH zBn):=by right
theorem zIJ  (hT:Bl mg) (hCl:Cl K mg C κ):TD P w K mg base 0 zB1 "choices_of" zBn zAl:=by
 intro fa cdv A outer s H hr
 have hu:=zHk hr
 exact (zI (qS (yW (yt hu) (zE (zX (zC 0 (pv 0)) (zE zF))) (zE yH) (z6 _)) (zO (zv (zY zG))) yJ) (zO (zv (zX (zC 0 (pv 0)) (zE zF)))))
theorem zKJ:zT zIz ["dance","dancer","some"] (zH zIP):=by right
theorem zSJ (h_takes_part:z7 P w K mg base 1 "takes_part" 2 yh) (h_choices_of:z7 P w K mg base 1 "choices_of" 1 yg) (hT:Bl mg) (hCl:Cl K mg C κ):TD P w K mg base 1 zIz "apart" zIP zI0:=by
 intro fa cdv A outer s H hr
 have hu1:=zHS hr
 have hN:=zKJ.nd
 exact (zI (zp 3 (zX (zC 0 (pv 0)) (zE zF)) hN (by left) (.inl (by left))) (zI (zFt 4 hN (by left) (.inl (by left))) (zI (qc 5 (zLp zLx (gl (by left)) hT.list zTQ (zC 2 (pv 2))) hN (by left) (.inl (by left))) (zI (zN3 300 zVQ (yW (zFm) (zE (yA zx (gl (by left)) hT.len zVL (zC 5 (pv 5)))) (zE zF) (z6 _)) (zI (zTV 6 5 (pv 5) hN (by left) (.inl (by left))) (zI (qS (zTT hu1 4 (pv 4) (zD 6 (pv 6))) (zO zQs) yJ) (zI (zL7 hu1 4 (pv 4) (zD 6 (pv 6)) zLn) (zO (qS (zLo (zEY (zE (zL h_takes_part (hr.mono (by decide)) (by left) rfl (zA (zX (zC 3 (pv 3)) (zC 6 (pv 6))) (zA (zD 1 (pv 1)) zG)))))) (zO (zHl 5 (pv 5) (qg (nm:=["choice"]) (m:=1) rfl rfl (by left) (by left) (zCp (zL h_choices_of (hr.mono (by decide)) (by left) rfl (zA (zX (zC 3 (pv 3)) (zC 6 (pv 6))) zG))) (yB (show 7<=7 by decide)) (λC s₃ H₃ ex=>(zW 7 (yZ (nm:=["choice"]) (by left)) (by left) (.inl (by left)) (.inr (by left)))) (λC s₃ H₃ ex=>.inl ⟨rfl,rfl⟩) (λC s₃ H₃ ex=>(zX (zC 7 (pv 7)) (zE zF)))))) yJ)))))) (zO (zv (yI yo (gl (by left)) hT.tuple zAE (zE (zg (zOG 4 rfl (gl (by left)) hT.sorted (pv 4)))))))))))
theorem zGF:zT zE4 ["dance","dancer"] (zH zEO):=by right
theorem zNZ (h_turns_among:z7 P w K mg base 3 "turns_among" 3 yT) (h_apart:z7 P w K mg base 2 "apart" 3 qY) (hT:Bl mg) (hCl:Cl K mg C κ):TD P w K mg base 3 zE4 "in_vain" zEO zB6:=by
 intro fa cdv A outer s H hr
 have hu:=zHk hr
 have hu1:=zHS hr
 have hN:=zGF.nd
 exact (zI (zFt 2 hN (by left) (.inl (by left))) (zI (zAG zVQ rfl (yn (gl (by left)) hT.range (zA (yA zx (gl (by left)) hT.len zVL (zE (zX (zC 0 (pv 0)) (zE zF)))) zG)) (zW 3 hN (by left) (.inl (by left)) (.inl rfl)) (zO (qS (yW (yt hu) (zE (yA zx (gl (by left)) hT.len zVL (zE (zL h_turns_among (hr.mono (by decide)) (by left) rfl (zA (zD 0 (pv 0)) (zA (zD 1 (pv 1)) (zA (zL h_apart (hr.mono (by decide)) (by left) rfl (zA (zD 0 (pv 0)) (zA (zD 1 (pv 1)) (zA (zY (zA (zD 3 (pv 3)) zG)) zG)))) zG))))))) (zE zF) (z6 _)) (zO (zL7 hu1 2 (pv 2) (zD 3 (pv 3)) zLn)) yJ))) (zO (zMQ 2 (pv 2)))))
theorem zA3:zT yb ["dancer","some","turns","vain"] (zH yY):=by right
theorem zBH  (hT:Bl mg) (hCl:Cl K mg C κ):TX P w K mg base κ 0 yb "refuse_waiting_in_vain" yY zq:=by
 intro fa cdv A outer s H E hr
 have hu1:=zHS hr
 obtain ⟨hK,hA_parts,hA_at,hA_rows,hA_past,hE_NoPart,hM_NoPart⟩:=hCl
 exact (zMF (zTc (sb_w (zTE (yW (zFm) (zE (yA zx (gl (by left)) hT.len zVL (zC 2 (pv 2)))) (zE zF) (z6 _)) (zQq (zEY (zE (yA (zMB rfl) (gl (by left)) hT.any b_any (zE (zg (qg (nm:=["number"]) (m:=1) rfl rfl (by left) (by left) (zCp (zD 1 (pv 1))) (yB (show 4<=4 by decide)) (λC s₃ H₃ ex=>(zW 4 (yZ (nm:=["number"]) (by left)) (by left) (.inl (by left)) (.inr (by left)))) (λC s₃ H₃ ex=>.inl ⟨rfl,rfl⟩) (λC s₃ H₃ ex=>(zTj hu1 3 (pv 3) (zD 4 (pv 4))))))))))))) (zMF (zJf 0 hE_NoPart (gl (by left)) hM_NoPart (zA (zMJ (zC 0 (pv 0))) zG))) (zFy yJ)))
theorem zJH:zT zDl ["turn","dancer"] (zH zDM):=by right
theorem zK2  (hT:Bl mg) (hCl:Cl K mg C κ):TD P w K mg base 0 zDl "asked_at" zDM zCH:=by
 intro fa cdv A outer s H hr
 have hu:=zHk hr
 exact (zI (qS (yW (yt hu) (zE (zX (zC 0 (pv 0)) (zE zF))) (zE yH) (z6 _)) (zO (zv (zY (zA yH zG)))) yJ) (zI (qS (yW (yt hu) (zE (zX (zC 0 (pv 0)) (zE zF))) (zC 1 (pv 1)) (z6 _)) (zO (zv (zY (zA yH (zA (zX (zC 0 (pv 0)) (zE zF)) (zA (yI yo (gl (by left)) hT.tuple zAE (zE (zg (qg (nm:=["choice"]) (m:=1) rfl rfl (by left) (by left) (zCp (zX (zC 0 (pv 0)) (zE zF))) (yB (show 2<=2 by decide)) (λC s₃ H₃ ex=>(zW 2 (yZ (nm:=["choice"]) (by left)) (by left) (.inl (by left)) (.inr (by left)))) (λC s₃ H₃ ex=>.inl ⟨rfl,rfl⟩) (λC s₃ H₃ ex=>(zX (zC 2 (pv 2)) (zE zF))))))) zG)))))) yJ) (zO (zv (zY (zA yH (zA (zX (zC 0 (pv 0)) (zE zF)) zG)))))))
theorem zB9:zT zA1 ["turns","dancer"] (zH zAs):=by right
theorem zFc (h_asked_at:z7 P w K mg base 1 "asked_at" 2 qi) (hT:Bl mg) (hCl:Cl K mg C κ):TX P w K mg base κ 1 zA1 "asked_at_all" zAs qm:=by
 intro fa cdv A outer s H E hr
 have hu:=zHk hr
 have hN:=zB9.nd
 obtain ⟨hK,hA_parts,hA_at,hA_rows,hA_past,hE_NoPart,hM_NoPart⟩:=hCl
 exact (qe (zHm (qS (yW (yt hu) (zE (yA zx (gl (by left)) hT.len zVL (zC 0 (pv 0)))) (zE zF) (z6 _)) (zO (zv (zY (zA yH zG)))) yJ)) (qe (zHm (zp 2 (zL h_asked_at (hr.mono (by decide)) (by left) rfl (zA (zX (zC 0 (pv 0)) (zE zF)) (zA (zD 1 (pv 1)) zG))) hN (by left) (.inr (by left)))) (qe (zTc (zLo (zEY (zE (yA (zMA rfl) (gl (by left)) hT.all b_all (zE (zg (qg (nm:=["turn"]) (m:=1) rfl rfl (by left) (by left) (zBO (zD 0 (pv 0))) (yB (show 3<=3 by decide)) (λC s₃ H₃ ex=>(zW 3 (yZ (nm:=["turn"]) (by left)) (by left) (.inl (by left)) (.inr (by left)))) (λC s₃ H₃ ex=>.inl ⟨rfl,rfl⟩) (λC s₃ H₃ ex=>(zEX (yt hu) (zE (zL h_asked_at (hr.mono (by decide)) (by left) rfl (zA (zD 3 (pv 3)) (zA (zD 1 (pv 1)) zG)))) (zC 2 (pv 2)) (z6 _)))))))))) (zMF (zJf 0 hE_NoPart (gl (by left)) hM_NoPart (zA (zMJ (zC 1 (pv 1))) zG))) (zFy yJ)) (zFy (zO (zv (zD 2 (pv 2))))))))
theorem zBg:zT zAd ["turns"] (zH zAM):=by right
theorem zFQ (h_choices_of:z7 P w K mg base 1 "choices_of" 1 yg) (hT:Bl mg) (hCl:Cl K mg C κ):TD P w K mg base 1 zAd "nexts_by_word" zAM zAe:=by
 intro fa cdv A outer s H hr
 have hu1:=zHS hr
 have hN:=zBg.nd
 exact (zI (zOQ 1 hN (by left) (.inl (by left))) (zI (zAG zVQ rfl (zBO (zD 0 (pv 0))) (zW 2 hN (by left) (.inl (by left)) (.inl rfl)) (zO (zAG zVQ rfl (zCp (zL h_choices_of (hr.mono (by decide)) (by left) rfl (zA (zD 2 (pv 2)) zG))) (zDz rfl (yX (zW 3 hN (by left) (.inl (by left)) (.inl rfl)) (yX (zW 4 hN (by left) (.inl (by left)) (.inl rfl)) zBt))) (zO (zOS 1 hu1 (pv 1) (zD 3 (pv 3)) (zD 4 (pv 4))))))) (zO (zMQ 1 (pv 1)))))
theorem zGG:zT zE5 ["dance","dancer"] (zH zEP):=by right
theorem zNa (h_in_vain:zRK P w K mg base 4 "in_vain" 2 qy) (h_apart:z7 P w K mg base 2 "apart" 3 qY) (h_turns_among:z7 P w K mg base 3 "turns_among" 3 yT) (h_refuse_waiting_in_vain:zRV P w K mg base κ 1 "refuse_waiting_in_vain" 4 zr) (h_asked_at_all:zTd P w K mg base κ 2 "asked_at_all" 2 yG) (h_nexts_by_word:zRK P w K mg base 2 "nexts_by_word" 1 yw) (hT:Bl mg) (hCl:Cl K mg C κ):TX P w K mg base κ 4 zE5 "part_of" zEP zE6:=by
 intro fa cdv A outer s H E hr
 have hu:=zHk hr
 have hu1:=zHS hr
 have hN:=zGG.nd
 exact (qe (zHm (zIj 2 h_in_vain (hr.mono (by decide)) (by left) rfl (zA (zD 0 (pv 0)) (zA (zD 1 (pv 1)) zG)) hN (by left) (.inl (by left)))) (qe (zHm (qc 3 (qE (zA (zL h_apart (hr.mono (by decide)) (by left) rfl (zA (zD 0 (pv 0)) (zA (zD 1 (pv 1)) (zA (zY (zA zF zG)) zG)))) zG)) hN (by left) (.inl (by left)))) (qe (zHm (zRR hu1 4 (zX (zC 3 (pv 3)) (zE zF)) zF hN (by left) (.inl (by left)))) (qe (zHm (qc 5 (qE zG) hN (by left) (.inl (by left)))) (qe (zOJ 20000000 zF2 (yW (zPl) (zE (yA zx (gl (by left)) hT.len zVL (zC 5 (pv 5)))) (zE (yA zx (gl (by left)) hT.len zVL (zC 3 (pv 3)))) (z6 _)) (qe (zHm (zp 6 (zX (zC 3 (pv 3)) (zE (yA zx (gl (by left)) hT.len zVL (zC 5 (pv 5))))) hN (by left) (.inl (by left)))) (qe (zHm (zp 7 (zL h_turns_among (hr.mono (by decide)) (by left) rfl (zA (zD 0 (pv 0)) (zA (zD 1 (pv 1)) (zA (zD 6 (pv 6)) zG)))) hN (by left) (.inl (by left)))) (qe (zRA (zOU h_refuse_waiting_in_vain zMD (hr.mono (by decide)) (by left) rfl (zGf (zD 1 (pv 1)) (zGf (zD 6 (pv 6)) (zGf (zD 7 (pv 7)) (zRT 2 (pv 2))))))) (qe (zTe 8 (zMG h_asked_at_all zMD (hr.mono (by decide)) (by left) rfl (zA (zD 7 (pv 7)) (zA (zD 1 (pv 1)) zG))) hN (by left) (.inl (by left))) (zFy (zI (zIj 9 h_nexts_by_word (hr.mono (by decide)) (by left) rfl (zA (zD 7 (pv 7)) zG) hN (by left) (.inl (by left))) (zI (qc 10 (qE zG) hN (by left) (.inl (by left))) (zI (zAG zF2 rfl (zBO (zg (zMX 9 rfl (gl (by left)) hT.sorted (pv 9)))) (zW 11 hN (by left) (.inl (by left)) (.inl rfl)) (zI (zp 12 (zL h_apart (hr.mono (by decide)) (by left) rfl (zA (zD 0 (pv 0)) (zA (zD 1 (pv 1)) (zA (yI yo (gl (by left)) hT.tuple zAE (zOR hu1 9 (pv 9) (zD 11 (pv 11)))) zG)))) hN (by left) (.inl (by left))) (zI (qS (zRO hu1 4 (pv 4) (zD 12 (pv 12))) (zI (zRP hu1 4 (pv 4) (zD 12 (pv 12)) (yA zx (gl (by left)) hT.len zVL (zC 3 (pv 3)))) (zO (yu 3 (pv 3) (zD 12 (pv 12))))) yJ) (zO (yu 10 (pv 10) (zY (zA (zD 11 (pv 11)) (zA (zRN hu1 4 (pv 4) (zD 12 (pv 12))) zG)))))))) (zO (yu 5 (pv 5) (zOV (sb_in hu (zX (zC 8 (pv 8)) (zE zF)) (zE (zY (zA yH (zA yH zG)))) (by rfl)) (zY (zA (zX (zC 8 (pv 8)) (zE zF)) (zA (zX (zC 8 (pv 8)) (zE zF)) (zA (yI yo (gl (by left)) hT.tuple zAE (zC 10 (pv 10))) zG)))) (zD 8 (pv 8)))))))))))))) (zFy (zO (zv (yI yo (gl (by left)) hT.tuple zAE (zC 5 (pv 5)))))))))))
theorem zSK:zT zNE ["self","dance"] (zH zLD):=by right
theorem zUS (h_part_of:zTd P w K mg base κ 5 "part_of" 2 qF) (hT:Bl mg) (hCl:Cl K mg C κ):TX P w K mg base κ 5 zNE "Hall.__init__" zLD (zF9 C):=by
 intro fa cdv A outer s H E hr
 obtain ⟨hK,hA_parts,hA_at,hA_rows,hA_past,hE_NoPart,hM_NoPart⟩:=hCl
 exact (qe (zOc 0 hK hA_parts (pv 0) (nm:=["dancer"]) (m:=1) rfl (by left) (by left) (yn (gl (by left)) hT.range (zA (zX (zC 1 (pv 1)) (zE zF)) zG)) (yB (show 2<=2 by decide)) (λC s₃ H₃ ex=>(zW 2 (yZ (nm:=["dancer"]) (by left)) (by left) (.inl (by left)) (.inr (by left)))) (λC s₃ H₃ ex EE hP=>(zMG h_part_of hP (hr.mono (by decide)) (by left) rfl (zA (zD 1 (pv 1)) (zA (zD 2 (pv 2)) zG))))) (zFy (zI (zJl 0 hK hA_at (pv 0) (qg (nm:=["part"]) (m:=1) rfl rfl (by left) (by left) (zBO (zTh 0 hK hA_parts (pv 0))) (yB (show 2<=2 by decide)) (λC s₃ H₃ ex=>(zW 2 (yZ (nm:=["part"]) (by left)) (by left) (.inl (by left)) (.inr (by left)))) (λC s₃ H₃ ex=>.inl ⟨rfl,rfl⟩) (λC s₃ H₃ ex=>zF))) (zI (zOW 0 hK hA_rows (pv 0)) (zO (zJl 0 hK hA_past (pv 0) (qE zG)))))))
theorem zFR:zT zDt ["_law_dance_here"] (zH zDN):=by right
theorem zK3 {fi:Addr} {fdi:FuncData} {psi:List Str} (hMk:Mk K C fi) (FO_init:zCb P w K mg base (CXE P w) 6 fi fdi psi (zRa K κ (zAh C) 2)) (hB_init:L2.zAu K fdi psi []) (hM_Hall:mg "Hall" = some (.ref C)) (hT:Bl mg) (hCl:Cl K mg C κ):TD P w K mg base 7 zDt "_law_hall" zDN (qQ C):=by
 intro fa cdv A outer s H hr
 have hN:=zFR.nd
 obtain ⟨hK,hA_parts,hA_at,hA_rows,hA_past,hE_NoPart,hM_NoPart⟩:=hCl
 exact (zI (zp 1 zHW hN (by left) (.inl (by left))) (zI (zOd 1 0 hMk FO_init hB_init (hr.mono (by decide)) (gl (by left)) hM_Hall rfl (zA (zD 0 (pv 0)) zG) rfl hE_NoPart (gl (by left)) hM_NoPart rfl rfl (λy=>(zO (zp 1 zHW hN (by left) (.inl (by left))))) hN (by left) (.inl (by left))) (zO (zOY 1 (pv 1)))))
theorem zSL:zT zNF ["self"] (zH zLE):=by right
theorem zUT  (hT:Bl mg) (hCl:Cl K mg C κ):TD P w K mg base 0 zNF "Hall.done" zLE (zNG C):=by
 intro fa cdv A outer s H hr
 obtain ⟨hK,hA_parts,hA_at,hA_rows,hA_past,hE_NoPart,hM_NoPart⟩:=hCl
 exact (zO (zv (yI yo (gl (by left)) hT.tuple zAE (zHn 0 hK hA_past (pv 0)))))
theorem zDF:zT zB4 ["_law_dance_here","_law_cell_here"] (zH zBo):=by right
theorem zIK (h_law_mix:z7 P w K mg base 1 "_law_mix" 3 zS) (hT:Bl mg) (hCl:Cl K mg C κ):TD P w K mg base 1 zB4 "_law_spoilt" zBo zAn:=by
 intro fa cdv A outer s H hr
 have hu:=zHk hr
 have hN:=zDF.nd
 exact (zI (zPi (zD 0 (pv 0)) (zDz rfl (yX (zW 2 hN (by left) (.inl (by left)) (.inl rfl)) (yX (zW 3 hN (by left) (.inl (by left)) (.inl rfl)) zBt)))) (zI (zp 4 (zL h_law_mix (hr.mono (by decide)) (by left) rfl (zA (zD 1 (pv 1)) (zA zF (zA (yA zx (gl (by left)) hT.len zVL (zC 3 (pv 3))) zG)))) hN (by left) (.inl (by left))) (zI (zp 5 (zX (zC 3 (pv 3)) (zC 4 (pv 4))) hN (by left) (.inl (by left))) (zI (qS (yW (yt hu) (zC 5 (pv 5)) (zE (zY (zA yH zG))) (z6 _)) (zO (zp 5 (zY (zA yH (zA (zb zAD (zC 1 (pv 1)) (zC 2 (pv 2))) (zA (zb zAD (zE (zb zU (zC 1 (pv 1)) (zE zF))) (zC 2 (pv 2))) (zA (zY (zA (zY (zA yH (zA (zL h_law_mix (hr.mono (by decide)) (by left) rfl (zA (zD 1 (pv 1)) (zA zF (zA (yA zx (gl (by left)) hT.len zVL (zC 3 (pv 3))) zG)))) zG))) zG)) zG))))) hN (by left) (.inl (by left)))) yJ) (zI (zp 6 (zL h_law_mix (hr.mono (by decide)) (by left) rfl (zA (zD 1 (pv 1)) (zA zF (zA zF zG)))) hN (by left) (.inl (by left))) (zI (zPi (zX (zE (zX (zC 5 (pv 5)) (zE zF))) (zE (zHZ (zE zF)))) (zDz rfl (yX (zW 7 hN (by left) (.inl (by left)) (.inl rfl)) (yX (zW 8 hN (by left) (.inl (by left)) (.inl rfl)) zBt)))) (zI (qS (yW (yt hu) (zC 6 (pv 6)) (zE zF) (z6 _)) (zO (zp 5 (zb zU (zE (qH (zC 5 (pv 5)) qd (qK zF))) (zE (zY (zA (zb zU (zE (qH (zE (zX (zC 5 (pv 5)) (zE zF))) qd (qK (zHZ (zE zF))))) (zE (zY (zA (zY (zA (zD 7 (pv 7)) (zA (zL h_law_mix (hr.mono (by decide)) (by left) rfl (zA (zD 1 (pv 1)) (zA zF (zA (yA zx (gl (by left)) hT.len zVL (zC 3 (pv 3))) zG)))) zG))) zG)))) zG)))) hN (by left) (.inl (by left)))) yJ) (zI (qS (yW (yt hu) (zC 6 (pv 6)) (zE zF) (z6 _)) (zO (zp 5 (zY (zA yH (zA (zX (zC 5 (pv 5)) (zE zF)) (zA (zX (zC 5 (pv 5)) (zE zF)) (zA (zX (zC 5 (pv 5)) (zE zF)) zG))))) hN (by left) (.inl (by left)))) yJ) (zI (qS (yW (yt hu) (zC 6 (pv 6)) (zE zF) (z6 _)) (zO (zp 5 (zb zU (zE (qH (zC 5 (pv 5)) qd (qK zF))) (zE (zY (zA (zb zU (zE (qH (zE (zX (zC 5 (pv 5)) (zE zF))) qd (qK (zHZ (zE zF))))) (zE (zY (zA (zY (zA (zb zU (zE (qH (zC 7 (pv 7)) qd (qK zF))) (zE yH)) (zA (zD 8 (pv 8)) zG))) zG)))) zG)))) hN (by left) (.inl (by left)))) yJ) (zI (qS (yW (yt hu) (zC 6 (pv 6)) (zE zF) (z6 _)) (zO (zp 5 (zb zU (zE (qH (zC 5 (pv 5)) qd (qK zF))) (zE (zY (zA (qH (zE (zX (zC 5 (pv 5)) (zE zF))) (qK (zHZ (zE zF))) qd) zG)))) hN (by left) (.inl (by left)))) yJ) (zI (qS (yW (yt hu) (zC 6 (pv 6)) (zE zF) (z6 _)) (zO (zp 5 (zY (zA yH zG)) hN (by left) (.inl (by left)))) yJ) (zO (zv (zY (zA (zD 2 (pv 2)) (zA (zb zU (zE (zb zU (zE (qH (zC 3 (pv 3)) qd (qK (zD 4 (pv 4))))) (zE (zY (zA (zD 5 (pv 5)) zG))))) (zE (qH (zC 3 (pv 3)) (qK (zb zU (zC 4 (pv 4)) (zE zF))) qd))) zG))))))))))))))))
theorem zJI:zT zDq ["self","dancer"] (zH zDO):=by right
theorem zK4  (hT:Bl mg) (hCl:Cl K mg C κ):TD P w K mg base 0 zDq "Hall.state_of" zDO (zDr C):=by
 intro fa cdv A outer s H hr
 obtain ⟨hK,hA_parts,hA_at,hA_rows,hA_past,hE_NoPart,hM_NoPart⟩:=hCl
 exact (zO (zv (zX (zE (zX (zHn 0 hK hA_parts (pv 0)) (zC 1 (pv 1)))) (zE (zX (zHn 0 hK hA_at (pv 0)) (zC 1 (pv 1)))))))
theorem zUU:zT zR6 ["self","one","other"] (zH zQC):=by right
theorem d_row  (hT:Bl mg) (hCl:Cl K mg C κ):TD P w K mg base 0 zR6 "Hall.row" zQC (zPH C):=by
 intro fa cdv A outer s H hr
 have hu1:=zHS hr
 obtain ⟨hK,hA_parts,hA_at,hA_rows,hA_past,hE_NoPart,hM_NoPart⟩:=hCl
 exact (zO (zv (yI yo (gl (by left)) hT.tuple zAE (zRG 0 hu1 hK hA_rows (pv 0) (zY (zA (zD 1 (pv 1)) (zA (zD 2 (pv 2)) zG))) (zY zG) ⟨rfl,rfl,rfl,rfl⟩))))
theorem zFS:zT zDs ["self","dancer"] (zH zDP):=by right
theorem zK5 (h_state_of:zHD P w K mg base C 1 "state_of" 2 (qA C)) (h_row:zHD P w K mg base C 1 "row" 3 (zH8 C)) (hT:Bl mg) (hCl:Cl K mg C κ):TD P w K mg base 1 zDs "Hall.moves_of" zDP (zCJ C):=by
 intro fa cdv A outer s H hr
 have hu:=zHk hr
 have hN:=zFS.nd
 obtain ⟨hK,hA_parts,hA_at,hA_rows,hA_past,hE_NoPart,hM_NoPart⟩:=hCl
 exact (zI (zp 2 (zEn 0 h_state_of hK (hr.mono (by decide)) (pv 0) (zA (zD 1 (pv 1)) zG) rfl) hN (by left) (.inr (by left))) (zI (qS (yW (yt hu) (zE (zX (zC 2 (pv 2)) (zE zF))) (zE yH) (z6 _)) (zO (zIl (qg (nm:=["word","number"]) (m:=2) rfl rfl (by left) (by left) (zCp (zX (zC 2 (pv 2)) (zE zF))) (zJd (zCs (yB (show 4<=4 by decide)) (zCs (yB (show 4<=5 by decide)) zHd))) (λC s₃ H₃ ex=>(zDz rfl (yX (zW 4 (yZ (nm:=["word","number"]) (by left)) (by left) (.inl (by left)) (.inr (by left))) (yX (zW 5 (yZ (nm:=["word","number"]) (by left)) (by left) (.inl (by left)) (.inr (by left))) zBt)))) (λC s₃ H₃ ex=>.inl ⟨rfl,rfl⟩) (λC s₃ H₃ ex=>(zY (zA yH (zA (zD 1 (pv 1)) (zA (zX (zC 2 (pv 2)) (zE zF)) (zA (zD 4 (pv 4)) zG))))))))) yJ) (zI (qS (yW (yt hu) (zE (zX (zC 2 (pv 2)) (zE zF))) (zE yH) (z6 _)) (zI (zp 3 (qH (zE (zEn 0 h_row hK (hr.mono (by decide)) (pv 0) (zA (zX (zC 2 (pv 2)) (zE zF)) (zA (zD 1 (pv 1)) zG)) rfl)) qd (qK zF)) hN (by left) (.inr (by left))) (zO (zIl (qg (nm:=["word","number"]) (m:=2) rfl rfl (by left) (by left) (zCp (zX (zC 2 (pv 2)) (zE zF))) (zJd (zCs (yB (show 4<=4 by decide)) (zCs (yB (show 4<=5 by decide)) zHd))) (λC s₃ H₃ ex=>(zDz rfl (yX (zW 4 (yZ (nm:=["word","number"]) (by left)) (by left) (.inl (by left)) (.inr (by left))) (yX (zW 5 (yZ (nm:=["word","number"]) (by left)) (by left) (.inl (by left)) (.inr (by left))) zBt)))) (λC s₃ H₃ ex=>.inr ⟨_,rfl,(yW (yt hu) (zE (zY (zA (zD 4 (pv 4)) zG))) (zC 3 (pv 3)) (z6 _))⟩) (λC s₃ H₃ ex=>(zY (zA yH (zA (zX (zC 2 (pv 2)) (zE zF)) (zA (zD 1 (pv 1)) (zA (zD 4 (pv 4)) zG)))))))))) yJ) (zO (zIl (qE zG))))))
theorem zKK:zT zI9 ["self"] (zH zIQ):=by right
theorem zSM (h_moves_of:zRY P w K mg base C 2 "moves_of" 2 (zBG C)) (hT:Bl mg) (hCl:Cl K mg C κ):TD P w K mg base 2 zI9 "Hall.moves" zIQ (zG0 C):=by
 intro fa cdv A outer s H hr
 have hN:=zKK.nd
 obtain ⟨hK,hA_parts,hA_at,hA_rows,hA_past,hE_NoPart,hM_NoPart⟩:=hCl
 exact (zI (qc 1 (qE zG) hN (by left) (.inl (by left))) (zI (zAG zVQ rfl (yn (gl (by left)) hT.range (zA (yA zx (gl (by left)) hT.len zVL (zHn 0 hK hA_parts (pv 0))) zG)) (zW 2 hN (by left) (.inl (by left)) (.inl rfl)) (zO (zHl 1 (pv 1) (zRZ 0 h_moves_of hK (hr.mono (by decide)) (pv 0) (zA (zD 2 (pv 2)) zG) rfl)))) (zO (zv (yI yo (gl (by left)) hT.tuple zAE (zC 1 (pv 1)))))))
theorem zJJ:zT zDo ["thing"] (zH zDQ):=by right
theorem zK6  (hT:Bl mg) (hCl:Cl K mg C κ):TD P w K mg base 0 zDo "is_whole" zDQ zDp:=by
 intro fa cdv A outer s H hr
 exact (zO (zv (zHY (zPq (T:="int") (by decide) (gl (by left)) hT.isinstance (gl (by left)) hT.int zOA (zC 0 (pv 0))) (zHX (zTF (zPq (T:="bool") (by decide) (gl (by left)) hT.isinstance (gl (by left)) hT.bool zTS (zC 0 (pv 0))))))))
theorem zFd:zT zBZ ["self","move"] (zH zBL):=by right
theorem zHC (h_is_whole:z7 P w K mg base 1 "is_whole" 1 zAJ) (h_moves:zHD P w K mg base C 3 "moves" 1 (yM C)) (hT:Bl mg) (hCl:Cl K mg C κ):TD P w K mg base 3 zBZ "Hall.can_be_done" zBL (zAI C):=by
 intro fa cdv A outer s H hr
 have hu:=zHk hr
 obtain ⟨hK,hA_parts,hA_at,hA_rows,hA_past,hE_NoPart,hM_NoPart⟩:=hCl
 exact (zO (zv (zHY (zTK hu (zD 1 (pv 1)) (zE (zBR 0 h_moves hK (hr.mono (by decide)) (pv 0))) (by rfl)) (zHY (zL h_is_whole (hr.mono (by decide)) (by left) rfl (zA (zX (zC 1 (pv 1)) (zE zF)) zG)) (zHX (zL h_is_whole (hr.mono (by decide)) (by left) rfl (zA (zX (zC 1 (pv 1)) (zE zF)) zG)))))))
theorem zPR:zT zJA ["self","dancer","word"] (zH zIR):=by right
theorem zSN (h_state_of:zHD P w K mg base C 1 "state_of" 2 (qA C)) (hT:Bl mg) (hCl:Cl K mg C κ):TD P w K mg base 1 zJA "Hall.go_on" zIR (zFB C):=by
 intro fa cdv A outer s H hr
 have hu1:=zHS hr
 obtain ⟨hK,hA_parts,hA_at,hA_rows,hA_past,hE_NoPart,hM_NoPart⟩:=hCl
 exact (zO (zRF 0 hK hA_at (pv 0) (zD 1 (pv 1)) (zMP hu1 (gl (by left)) hT.dict (zX (zE (zEn 0 h_state_of hK (hr.mono (by decide)) (pv 0) (zA (zD 1 (pv 1)) zG) rfl)) (zE zF)) (zD 2 (pv 2)))))
theorem zUV:zT n_do ["self","move"] (zH s_do):=by right
theorem d_do (h_can_be_done:zHD P w K mg base C 4 "can_be_done" 2 (qB C)) (h_go_on:zSR P w K mg base C 2 "go_on" 3 (zB7 C)) (hT:Bl mg) (hCl:Cl K mg C κ):TD P w K mg base 4 n_do "Hall.do" s_do (zUB C):=by
 intro fa cdv A outer s H hr
 have hu:=zHk hr
 have hu1:=zHS hr
 have hN:=zUV.nd
 obtain ⟨hK,hA_parts,hA_at,hA_rows,hA_past,hE_NoPart,hM_NoPart⟩:=hCl
 exact (zI (qS (zLo (zEY (zE (zEn 0 h_can_be_done hK (hr.mono (by decide)) (pv 0) (zA (zD 1 (pv 1)) zG) rfl)))) (zO zOX) yJ) (zI (zp 2 (zY (zA (zX (zC 1 (pv 1)) (zE zF)) (zA (zX (zC 1 (pv 1)) (zE zF)) zG))) hN (by left) (.inl (by left))) (zI (qS (yW (yt hu) (zE (zX (zC 1 (pv 1)) (zE zF))) (zE yH) (z6 _)) (zI (zRI 0 hu1 hK hA_rows (pv 0) (zD 2 (pv 2)) (zX (zC 1 (pv 1)) (zE zF))) (zO (zGd 0 h_go_on hK (hr.mono (by decide)) (pv 0) (zA (zX (zC 1 (pv 1)) (zE zF)) (zA (zX (zC 1 (pv 1)) (zE zF)) zG)) rfl))) (zI (zRH 0 hu1 hK hA_rows (pv 0) (zD 2 (pv 2))) (zO (zGd 0 h_go_on hK (hr.mono (by decide)) (pv 0) (zA (zX (zC 1 (pv 1)) (zE zF)) (zA (zX (zC 1 (pv 1)) (zE zF)) zG)) rfl)))) (zO (zRD 0 hK hA_past (pv 0) (zD 1 (pv 1)))))))
theorem zIL:zT zCk ["_law_move"] (zH zCZ):=by right
theorem zJK  (hT:Bl mg) (hCl:Cl K mg C κ):TD P w K mg base 0 zCk "_law_mover" zCZ zBa:=by
 intro fa cdv A outer s H hr
 have hu:=zHk hr
 exact (zI (qS (yW (yt hu) (zE (zX (zC 0 (pv 0)) (zE zF))) (zE yH) (z6 _)) (zO (zv (zX (zC 0 (pv 0)) (zE zF)))) yJ) (zO (zv (zX (zC 0 (pv 0)) (zE zF)))))
theorem zNb:zT zG5 ["self"] (zH zGH):=by right
theorem zPS  (hT:Bl mg) (hCl:Cl K mg C κ):TD P w K mg base 0 zG5 "Hall.states" zGH (zG6 C):=by
 intro fa cdv A outer s H hr
 obtain ⟨hK,hA_parts,hA_at,hA_rows,hA_past,hE_NoPart,hM_NoPart⟩:=hCl
 exact (zO (zv (yI yo (gl (by left)) hT.tuple zAE (zHn 0 hK hA_at (pv 0)))))
theorem zDG:zT zB8 ["_law_dance_here","_law_moves"] (zH zBp):=by right
theorem zIM {fi:Addr} {fdi:FuncData} {psi:List Str} (hMk:Mk K C fi) (FO_init:zCb P w K mg base (CXE P w) 6 fi fdi psi (zRa K κ (zAh C) 2)) (hB_init:L2.zAu K fdi psi []) (hM_Hall:mg "Hall" = some (.ref C)) (h_do:zSR P w K mg base C 5 "do" 2 (zR7 C)) (h_states:zHD P w K mg base C 1 "states" 1 (zCK C)) (h_moves:zHD P w K mg base C 3 "moves" 1 (yM C)) (h_row:zHD P w K mg base C 1 "row" 3 (zH8 C)) (hT:Bl mg) (hCl:Cl K mg C κ):TD P w K mg base 7 zB8 "_law_behind" zBp (zAr C):=by
 intro fa cdv A outer s H hr
 have hu:=zHk hr
 have hN:=zDG.nd
 obtain ⟨hK,hA_parts,hA_at,hA_rows,hA_past,hE_NoPart,hM_NoPart⟩:=hCl
 exact (zI (zOe 2 hMk FO_init hB_init (hr.mono (by decide)) (gl (by left)) hM_Hall rfl (zA (zD 0 (pv 0)) zG) rfl hN (by left) (.inr (by left))) (zI (zAG zVQ rfl (zCp (zD 1 (pv 1))) (zW 3 hN (by left) (.inl (by left)) (.inl rfl)) (zI (qS (zTL hu (zD 3 (pv 3)) (zE (zBR 2 h_moves hK (hr.mono (by decide)) (pv 2))) (by rfl)) (zO (zv zHW)) yJ) (zO (zGd 2 h_do hK (hr.mono (by decide)) (pv 2) (zA (zD 3 (pv 3)) zG) rfl)))) (zI (qc 4 (qE zG) hN (by left) (.inl (by left))) (zI (zAG zVQ rfl (yn (gl (by left)) hT.range (zA (zX (zC 0 (pv 0)) (zE zF)) zG)) (zW 5 hN (by left) (.inr (by left)) (.inl rfl)) (zO (yu 4 (pv 4) (zg (qg (nm:=["_law_other"]) (m:=1) rfl rfl (by left) (by left) (yn (gl (by left)) hT.range (zA (zX (zC 0 (pv 0)) (zE zF)) zG)) (yB (show 6<=6 by decide)) (λC s₃ H₃ ex=>(zW 6 (yZ (nm:=["_law_other"]) (by left)) (by left) (.inl (by left)) (.inr (by left)))) (λC s₃ H₃ ex=>.inr ⟨_,rfl,(yW (zLt hu) (zC 6 (pv 6)) (zC 5 (pv 5)) (z6 _))⟩) (λC s₃ H₃ ex=>(zEn 2 h_row hK (hr.mono (by decide)) (pv 2) (zA (zD 5 (pv 5)) (zA (zD 6 (pv 6)) zG)) rfl))))))) (zPg 4 (zO (zv (zY (zA (zBR 2 h_states hK (hr.mono (by decide)) (pv 2)) (zA (zD 4 (pv 4)) (zA (zBR 2 h_moves hK (hr.mono (by decide)) (pv 2)) zG)))))))))))
theorem zQB:zT zSG ["_law_script"] (zH zGI):=by right
theorem d_law (h_law_dance:z7 P w K mg base 4 "_law_dance" 1 qh) (h_law_hall:zRK P w K mg base 8 "_law_hall" 1 (yO C)) (h_done:zHD P w K mg base C 1 "done" 1 (zGA C)) (h_law_spoilt:z7 P w K mg base 2 "_law_spoilt" 2 yi) (h_moves:zHD P w K mg base C 3 "moves" 1 (yM C)) (h_law_cell:z7 P w K mg base 1 "_law_cell" 2 zh) (h_do:zSR P w K mg base C 5 "do" 2 (zR7 C)) (h_law_mover:z7 P w K mg base 1 "_law_mover" 1 qN) (h_law_behind:z7 P w K mg base 8 "_law_behind" 2 (q9 C)) (h_law_mix:z7 P w K mg base 1 "_law_mix" 3 zS) (hT:Bl mg) (hCl:Cl K mg C κ):TD P w K mg base 8 zSG "law" zGI (zPP C):=by
 intro fa cdv A outer s H hr
 have hu:=zHk hr
 have hN:=zQB.nd
 obtain ⟨hK,hA_parts,hA_at,hA_rows,hA_past,hE_NoPart,hM_NoPart⟩:=hCl
 exact (zI (zp 1 (zL h_law_dance (hr.mono (by decide)) (by left) rfl (zA (zD 0 (pv 0)) zG)) hN (by left) (.inl (by left))) (zI (qS (yW (yt hu) (zE (zb zAD (zE (zL h_law_cell (hr.mono (by decide)) (by left) rfl (zA (zD 0 (pv 0)) (zA zF zG)))) (zE zF))) (zE zF) (z6 _)) (zO (zp 1 (zL h_law_spoilt (hr.mono (by decide)) (by left) rfl (zA (zD 1 (pv 1)) (zA (zb zN6 (zE (zL h_law_cell (hr.mono (by decide)) (by left) rfl (zA (zD 0 (pv 0)) (zA zF zG)))) (zE zF)) zG))) hN (by left) (.inl (by left)))) yJ) (zI (zIj 2 h_law_hall (hr.mono (by decide)) (by left) rfl (zA (zD 1 (pv 1)) zG) hN (by left) (.inl (by left))) (zI (qS (zTm 2 (pv 2)) (zO (zv zLn)) yJ) (zI (zAG zVQ rfl (zBO (zg (zJb (zC 0 (pv 0)) (qK zF) (qK zF)))) (zW 3 hN (by left) (.inl (by left)) (.inl rfl)) (zI (zp 4 (zBR 2 h_moves hK (hr.mono (by decide)) (pv 2)) hN (by left) (.inl (by left))) (zO (qS (zEY (zC 4 (pv 4))) (zO (zGd 2 h_do hK (hr.mono (by decide)) (pv 2) (zA (zX (zC 4 (pv 4)) (zE (zL h_law_mix (hr.mono (by decide)) (by left) rfl (zA (zD 3 (pv 3)) (zA zF (zA (yA zx (gl (by left)) hT.len zVL (zC 4 (pv 4))) zG)))))) zG) rfl)) yJ)))) (zI (zp 5 (zBR 2 h_done hK (hr.mono (by decide)) (pv 2)) hN (by left) (.inl (by left))) (zI (zp 4 (zg (zJb (zE (zg (qg (nm:=["_law_move"]) (m:=1) rfl rfl (by left) (by left) (zCp (zBR 2 h_moves hK (hr.mono (by decide)) (pv 2))) (yB (show 9<=9 by decide)) (λC s₃ H₃ ex=>(zW 9 (yZ (nm:=["_law_move"]) (by left)) (by left) (.inl (by left)) (.inr (by left)))) (λC s₃ H₃ ex=>.inl ⟨rfl,rfl⟩) (λC s₃ H₃ ex=>(zD 9 (pv 9)))))) qd (qK zF))) hN (by left) (.inl (by left))) (zI (zAG zVQ rfl (zBO (zD 4 (pv 4))) (zW 6 hN (by left) (.inl (by left)) (.inl rfl)) (zO (zAG zVQ rfl (zBO (zD 4 (pv 4))) (zW 7 hN (by left) (.inl (by left)) (.inl rfl)) (zO (qS (yW (zLt hu) (zE (zL h_law_mover (hr.mono (by decide)) (by left) rfl (zA (zD 6 (pv 6)) zG))) (zE (zL h_law_mover (hr.mono (by decide)) (by left) rfl (zA (zD 7 (pv 7)) zG))) (z6 _)) (zI (zp 8 (zL h_law_behind (hr.mono (by decide)) (by left) rfl (zA (zD 1 (pv 1)) (zA (zb zU (zC 5 (pv 5)) (zE (zY (zA (zD 6 (pv 6)) (zA (zD 7 (pv 7)) zG))))) zG))) hN (by left) (.inl (by left))) (zO (qS (sb_w (sw_or (yW (zTM) (zC 8 (pv 8)) (zE zHW) (z6 _)) (zTD (yW (zLt hu) (zC 8 (pv 8)) (zE (zL h_law_behind (hr.mono (by decide)) (by left) rfl (zA (zD 1 (pv 1)) (zA (zb zU (zC 5 (pv 5)) (zE (zY (zA (zD 7 (pv 7)) (zA (zD 6 (pv 6)) zG))))) zG)))) (z6 _))))) (zO (zv zLn)) yJ))) yJ))))) (zO (zv zLn))))))))))
end
end K09
namespace K09
open PySem PySem.Spec PyProof.Rows L2 RD LG
noncomputable def zNc (ds:List D):Option D:=by
 classical exact if ∃ ns:List Int,ds = [.lst (ns.map D.int)]/\ns.length<=63 then some (.bl true) else none
theorem zBh.fn {K:Fg} {f:Addr} {x q:Str} {st:Stmt} (h:zBh K f x q st):∃ fd,Fun K x q st f fd:=by
 obtain ⟨_,_,_,_,_,_,_,_,_,l,c,k⟩:=h
 exact ⟨_,zPe l c k⟩
theorem zFe {us:List Value} (h:us.length=1):∃ a,us = [a]:=List.length_eq_one_iff.mp h
theorem zPT {us:List Value} {n:Nat} (h:us.length=n+1):∃ a l,us=a::l/\l.length=n:=by
 cases us with
 |nil=>cases h
 |cons a l=>exact ⟨a,l,rfl,Nat.succ.inj h⟩
theorem zBl {us:List Value} (h:us.length=2):∃ a b,us = [a,b]:=by
 obtain ⟨a,_,rfl,j⟩:=zPT h
 obtain ⟨b,rfl⟩:=zFe j
 exact ⟨a,b,rfl⟩
theorem zK7 {us:List Value} (h:us.length=3):∃ a b c,us = [a,b,c]:=by
 obtain ⟨a,_,rfl,j⟩:=zPT h
 obtain ⟨b,c,rfl⟩:=zBl j
 exact ⟨a,b,c,rfl⟩
theorem zPU {us:List Value} (h:us.length=4):∃ a b c d,us = [a,b,c,d]:=by
 obtain ⟨a,_,rfl,j⟩:=zPT h
 obtain ⟨b,c,d,rfl⟩:=zK7 j
 exact ⟨a,b,c,d,rfl⟩
theorem len_5 {us:List Value} (h:us.length=5):∃ a b c d e,us = [a,b,c,d,e]:=by
 obtain ⟨a,_,rfl,j⟩:=zPT h
 obtain ⟨b,c,d,e,rfl⟩:=zPU j
 exact ⟨a,b,c,d,e,rfl⟩
theorem zUW {l:PySem.W.OpenLaw} {w:World} {K:Fg} {h:Heap} {mg:MGt} {fa:Addr} (X:K.In h) (G:h.Ns mainGlobals mg) (hfa:mg "law" = some (.ref fa)) (hF:zPV K)
  : ∃ fd:FuncData,(∀ (s:Shared) (v:Value),BindsTo s fd ⟨[v],[]⟩ [("_law_script",v)])/\∀ base:Heap,K.In base->base.Ns mainGlobals mg->zCb l.prog w K mg base CX0 9 fa fd ["_law_script"] (spD K zNc 1):=by
 refine hF _ @λC np f0 f1 f2 f3 f4 f5 f6 f7 f8 f9 f10 f11 f12 f13 f14 f15 f16 f17 f18 f19 f20 f21 f22 f23 f24 f25 f26 f27 f28 f29 f30 f31 f32 f33 f34 f35 odL anL slL ocL kVL dcL pmL cdL ctL aH aN a0 p0 a1 p1 a2 p2 a3 p3 a4 p4 a5 p5 a6 p6 a7 p7 a8 p8 a9 p9 a10 p10 a11 p11 a12 p12 a13 p13 a14 p14 a15 p15 a16 p16 a17 p17 a18 p18 a19 p19 a20 p20 k20 n20 a21 p21 a22 p22 k22 n22 a23 p23 a24 p24 k24 n24 a25 p25 k25 n25 a26 p26 k26 n26 a27 p27 k27 n27 a28 p28 a29 p29 k29 n29 a30 p30 k30 n30 a31 p31 k31 n31 a32 p32 a33 p33 k33 n33 a34 p34 a35 l35 c35 k35 z_len z_range z_enumerate z_sorted z_tuple z_list z_int z_dict z_isinstance z_all z_any z_str z_bool q1 q2 q3 q4 q5 q6 q7 q_parts q_at q_rows q_past=>?_
 have e:=hfa.symm.trans (zU1 X G a35)
 cases e
 have hT:Bl mg:=⟨zVO X G z_len,zVO X G z_range,zVO X G z_enumerate,zVO X G z_sorted,zVO X G z_tuple,zVO X G z_list,zVO X G z_int,zVO X G z_dict,zVO X G z_isinstance,zVO X G z_all,zVO X G z_any,zVO X G z_str,zVO X G z_bool⟩
 have hM_Hall:mg "Hall" = some (.ref C):=zU1 X G aH
 have hCl:Cl K mg C (λ_=>np):=⟨⟨q1,q2,q3,q4⟩,q_parts,q_at,q_rows,q_past,q7,zU1 X G aN⟩
 obtain ⟨_,F0⟩:=p0.fn
 have b0:=F0.binds (ps:=["_law_cell_here","_law_prime","_law_many"]) λ_ _ _ _ _ _ us hl=>by obtain ⟨_,_,_,rfl⟩:=zK7 hl;rfl
 obtain ⟨_,F1⟩:=p1.fn
 have b1:=F1.binds (ps:=["_law_script","_law_k"]) λ_ _ _ _ _ _ us hl=>by obtain ⟨_,_,rfl⟩:=zBl hl;rfl
 obtain ⟨_,F2⟩:=p2.fn
 have b2:=F2.binds (ps:=["_law_cell_here","_law_many"]) λ_ _ _ _ _ _ us hl=>by obtain ⟨_,_,rfl⟩:=zBl hl;rfl
 obtain ⟨_,F3⟩:=p3.fn
 have b3:=F3.binds (ps:=["_law_start","_law_goals","_law_one","_law_others","_law_words"]) λ_ _ _ _ _ _ us hl=>by obtain ⟨_,_,_,_,_,rfl⟩:=len_5 hl;rfl
 obtain ⟨_,F4⟩:=p4.fn
 have b4:=F4.binds (ps:=["_law_cell_here","_law_j"]) λ_ _ _ _ _ _ us hl=>by obtain ⟨_,_,rfl⟩:=zBl hl;rfl
 obtain ⟨_,F5⟩:=p5.fn
 have b5:=F5.binds (ps:=["_law_cell_here","_law_start","_law_many","_law_goals"]) λ_ _ _ _ _ _ us hl=>by obtain ⟨_,_,_,_,rfl⟩:=zPU hl;rfl
 obtain ⟨_,F6⟩:=p6.fn
 have b6:=F6.binds (ps:=["_law_cell_here","_law_many"]) λ_ _ _ _ _ _ us hl=>by obtain ⟨_,_,rfl⟩:=zBl hl;rfl
 obtain ⟨_,F7⟩:=p7.fn
 have b7:=F7.binds (ps:=["_law_cell_here","_law_here","_law_many","_law_goal"]) λ_ _ _ _ _ _ us hl=>by obtain ⟨_,_,_,_,rfl⟩:=zPU hl;rfl
 obtain ⟨_,F8⟩:=p8.fn
 have b8:=F8.binds (ps:=["_law_script"]) λ_ _ _ _ _ _ us hl=>by obtain ⟨_,rfl⟩:=zFe hl;rfl
 obtain ⟨_,F9⟩:=p9.fn
 have b9:=F9.binds (ps:=["place","dancer"]) λ_ _ _ _ _ _ us hl=>by obtain ⟨_,_,rfl⟩:=zBl hl;rfl
 obtain ⟨_,F10⟩:=p10.fn
 have b10:=F10.binds (ps:=["place","dancer"]) λ_ _ _ _ _ _ us hl=>by obtain ⟨_,_,rfl⟩:=zBl hl;rfl
 obtain ⟨_,F11⟩:=p11.fn
 have b11:=F11.binds (ps:=["dance","dancer","some"]) λ_ _ _ _ _ _ us hl=>by obtain ⟨_,_,_,rfl⟩:=zK7 hl;rfl
 obtain ⟨_,F12⟩:=p12.fn
 have b12:=F12.binds (ps:=["place"]) λ_ _ _ _ _ _ us hl=>by obtain ⟨_,rfl⟩:=zFe hl;rfl
 obtain ⟨_,F13⟩:=p13.fn
 have b13:=F13.binds (ps:=["dance","dancer","some"]) λ_ _ _ _ _ _ us hl=>by obtain ⟨_,_,_,rfl⟩:=zK7 hl;rfl
 obtain ⟨_,F14⟩:=p14.fn
 have b14:=F14.binds (ps:=["dance","dancer"]) λ_ _ _ _ _ _ us hl=>by obtain ⟨_,_,rfl⟩:=zBl hl;rfl
 obtain ⟨_,F15⟩:=p15.fn
 have b15:=F15.binds (ps:=["dancer","some","turns","vain"]) λ_ _ _ _ _ _ us hl=>by obtain ⟨_,_,_,_,rfl⟩:=zPU hl;rfl
 obtain ⟨_,F16⟩:=p16.fn
 have b16:=F16.binds (ps:=["turn","dancer"]) λ_ _ _ _ _ _ us hl=>by obtain ⟨_,_,rfl⟩:=zBl hl;rfl
 obtain ⟨_,F17⟩:=p17.fn
 have b17:=F17.binds (ps:=["turns","dancer"]) λ_ _ _ _ _ _ us hl=>by obtain ⟨_,_,rfl⟩:=zBl hl;rfl
 obtain ⟨_,F18⟩:=p18.fn
 have b18:=F18.binds (ps:=["turns"]) λ_ _ _ _ _ _ us hl=>by obtain ⟨_,rfl⟩:=zFe hl;rfl
 obtain ⟨_,F19⟩:=p19.fn
 have b19:=F19.binds (ps:=["dance","dancer"]) λ_ _ _ _ _ _ us hl=>by obtain ⟨_,_,rfl⟩:=zBl hl;rfl
 obtain ⟨_,F20⟩:=p20.fn
 have b20:=F20.binds (ps:=["self","dance"]) λ_ _ _ _ _ _ us hl=>by obtain ⟨_,_,rfl⟩:=zBl hl;rfl
 obtain ⟨_,F21⟩:=p21.fn
 have b21:=F21.binds (ps:=["_law_dance_here"]) λ_ _ _ _ _ _ us hl=>by obtain ⟨_,rfl⟩:=zFe hl;rfl
 obtain ⟨_,F22⟩:=p22.fn
 have b22:=F22.binds (ps:=["self"]) λ_ _ _ _ _ _ us hl=>by obtain ⟨_,rfl⟩:=zFe hl;rfl
 obtain ⟨_,F23⟩:=p23.fn
 have b23:=F23.binds (ps:=["_law_dance_here","_law_cell_here"]) λ_ _ _ _ _ _ us hl=>by obtain ⟨_,_,rfl⟩:=zBl hl;rfl
 obtain ⟨_,F24⟩:=p24.fn
 have b24:=F24.binds (ps:=["self","dancer"]) λ_ _ _ _ _ _ us hl=>by obtain ⟨_,_,rfl⟩:=zBl hl;rfl
 obtain ⟨_,F25⟩:=p25.fn
 have b25:=F25.binds (ps:=["self","one","other"]) λ_ _ _ _ _ _ us hl=>by obtain ⟨_,_,_,rfl⟩:=zK7 hl;rfl
 obtain ⟨_,F26⟩:=p26.fn
 have b26:=F26.binds (ps:=["self","dancer"]) λ_ _ _ _ _ _ us hl=>by obtain ⟨_,_,rfl⟩:=zBl hl;rfl
 obtain ⟨_,F27⟩:=p27.fn
 have b27:=F27.binds (ps:=["self"]) λ_ _ _ _ _ _ us hl=>by obtain ⟨_,rfl⟩:=zFe hl;rfl
 obtain ⟨_,F28⟩:=p28.fn
 have b28:=F28.binds (ps:=["thing"]) λ_ _ _ _ _ _ us hl=>by obtain ⟨_,rfl⟩:=zFe hl;rfl
 obtain ⟨_,F29⟩:=p29.fn
 have b29:=F29.binds (ps:=["self","move"]) λ_ _ _ _ _ _ us hl=>by obtain ⟨_,_,rfl⟩:=zBl hl;rfl
 obtain ⟨_,F30⟩:=p30.fn
 have b30:=F30.binds (ps:=["self","dancer","word"]) λ_ _ _ _ _ _ us hl=>by obtain ⟨_,_,_,rfl⟩:=zK7 hl;rfl
 obtain ⟨_,F31⟩:=p31.fn
 have b31:=F31.binds (ps:=["self","move"]) λ_ _ _ _ _ _ us hl=>by obtain ⟨_,_,rfl⟩:=zBl hl;rfl
 obtain ⟨_,F32⟩:=p32.fn
 have b32:=F32.binds (ps:=["_law_move"]) λ_ _ _ _ _ _ us hl=>by obtain ⟨_,rfl⟩:=zFe hl;rfl
 obtain ⟨_,F33⟩:=p33.fn
 have b33:=F33.binds (ps:=["self"]) λ_ _ _ _ _ _ us hl=>by obtain ⟨_,rfl⟩:=zFe hl;rfl
 obtain ⟨_,F34⟩:=p34.fn
 have b34:=F34.binds (ps:=["_law_dance_here","_law_moves"]) λ_ _ _ _ _ _ us hl=>by obtain ⟨_,_,rfl⟩:=zBl hl;rfl
 have F35:=zPe (st:=zGI) l35 c35 k35
 refine ⟨PySem.W.fnOf "law" "law" (zCX zGI) (yE zGI) (zH zGI) .none kVL dcL pmL anL cdL ctL,λs v=>.of_eq rfl,λbase _ _=>?_⟩
 have h_law_mix:z7 l.prog w K mg base 1 "_law_mix" 3 zS:=qU F0 (zU1 X G a0) b0 zKx (zNX  hT hCl) (λ_ _ _ h=>h)
 have h_law_cell:z7 l.prog w K mg base 1 "_law_cell" 2 zh:=qU F1 (zU1 X G a1) b1 zJF (zKy  hT hCl) (λ_ _ _ h=>h)
 have h_law_is_late:z7 l.prog w K mg base 1 "_law_is_late" 2 yS:=qU F2 (zU1 X G a2) b2 zFb (zG7  hT hCl) (λ_ _ _ h=>h)
 have h_law_told_late:z7 l.prog w K mg base 1 "_law_told_late" 5 zl:=qU F3 (zU1 X G a3) b3 zBe (zFM  hT hCl) (λ_ _ _ h=>h)
 have h_law_word:z7 l.prog w K mg base 2 "_law_word" 2 yN:=qU F4 (zU1 X G a4) b4 zFN (zKz h_law_mix hT hCl) (λ_ _ _ h=>h)
 have h_law_told_on:z7 l.prog w K mg base 3 "_law_told_on" 4 zZ:=qU F5 (zU1 X G a5) b5 zCV (zG8 h_law_mix h_law_is_late h_law_told_late h_law_word hT hCl) (λ_ _ _ h=>h)
 have h_law_size:z7 l.prog w K mg base 2 "_law_size" 2 zBB:=qU F6 (zU1 X G a6) b6 zFO (zK0 h_law_is_late h_law_mix hT hCl) (λ_ _ _ h=>h)
 have h_law_apart_two:z7 l.prog w K mg base 3 "_law_apart_two" 4 yK:=qU F7 (zU1 X G a7) b7 zBf (zFP h_law_mix h_law_word hT hCl) (λ_ _ _ h=>h)
 have h_law_dance:z7 l.prog w K mg base 4 "_law_dance" 1 qh:=qU F8 (zU1 X G a8) b8 zD6 (zJG h_law_mix h_law_cell h_law_told_on h_law_size h_law_apart_two hT hCl) (λ_ _ _ h=>h)
 have h_takes_part:z7 l.prog w K mg base 1 "takes_part" 2 yh:=qU F9 (zU1 X G a9) b9 zG9 (zII  hT hCl) (λ_ _ _ h=>h)
 have h_is_turn:z7 l.prog w K mg base 2 "is_turn" 2 zBF:=qU F10 (zU1 X G a10) b10 zK1 (zNY h_takes_part hT hCl) (λ_ _ _ h=>h)
 have h_turns_among:z7 l.prog w K mg base 3 "turns_among" 3 yT:=qU F11 (zU1 X G a11) b11 zCW (zHA h_is_turn hT hCl) (λ_ _ _ h=>h)
 have h_choices_of:z7 l.prog w K mg base 1 "choices_of" 1 yg:=qU F12 (zU1 X G a12) b12 zHB (zIJ  hT hCl) (λ_ _ _ h=>h)
 have h_apart:z7 l.prog w K mg base 2 "apart" 3 qY:=qU F13 (zU1 X G a13) b13 zKJ (zSJ h_takes_part h_choices_of hT hCl) (λ_ _ _ h=>h)
 have h_in_vain:zRK l.prog w K mg base 4 "in_vain" 2 qy:=⟨_,_,_,zMS F14 zGF (zNZ h_turns_among h_apart hT hCl) (λ_ _ _ h=>h),zU1 X G a14,F14.kp,b14⟩
 have h_refuse_waiting_in_vain:zRV l.prog w K mg base (λ_=>np) 1 "refuse_waiting_in_vain" 4 zr:=⟨_,_,_,zRU F15 zA3 (zBH  hT hCl) (λa _ _ _ _ h=>qW h a),zU1 X G a15,F15.kp,b15⟩
 have h_asked_at:z7 l.prog w K mg base 1 "asked_at" 2 qi:=qU F16 (zU1 X G a16) b16 zJH (zK2  hT hCl) (λ_ _ _ h=>h)
 have h_asked_at_all:zTd l.prog w K mg base (λ_=>np) 2 "asked_at_all" 2 yG:=⟨_,_,_,zPt F17 zB9 (zFc h_asked_at hT hCl) (λ_ _ _ h=>h),zU1 X G a17,F17.kp,b17⟩
 have h_nexts_by_word:zRK l.prog w K mg base 2 "nexts_by_word" 1 yw:=⟨_,_,_,zMS F18 zBg (zFQ h_choices_of hT hCl) (λ_ _ _ h=>h),zU1 X G a18,F18.kp,b18⟩
 have h_part_of:zTd l.prog w K mg base (λ_=>np) 5 "part_of" 2 qF:=⟨_,_,_,zPt F19 zGG (zNa h_in_vain h_apart h_turns_among h_refuse_waiting_in_vain h_asked_at_all h_nexts_by_word hT hCl) (λ_ _ _ h=>h),zU1 X G a19,F19.kp,b19⟩
 have FO_init:=zRb (κ:=λ_=>np) (f:=(zAh C)) F20 zSK (zUS h_part_of hT hCl) (λa _ _ _ _ h=>qW h a)
 have hMk:Mk K C f20:=⟨q5,a20,n20,q6⟩
 have hB_init:=b20
 have h_law_hall:zRK l.prog w K mg base 8 "_law_hall" 1 (yO C):=⟨_,_,_,zMS F21 zFR (zK3 hMk FO_init hB_init hM_Hall hT hCl) (λ_ _ _ h=>h),zU1 X G a21,F21.kp,b21⟩
 have h_done:zHD l.prog w K mg base C 1 "done" 1 (zGA C):=⟨_,_,_,zF0 F22 zSL (zUT  hT hCl) (λa _ _ _ _ h=>qW h a),⟨a22,n22,k22⟩,b22⟩
 have h_law_spoilt:z7 l.prog w K mg base 2 "_law_spoilt" 2 yi:=qU F23 (zU1 X G a23) b23 zDF (zIK h_law_mix hT hCl) (λ_ _ _ h=>h)
 have h_state_of:zHD l.prog w K mg base C 1 "state_of" 2 (qA C):=⟨_,_,_,zF0 F24 zJI (zK4  hT hCl) (λa _ _ _ _ h=>qW h a),⟨a24,n24,k24⟩,b24⟩
 have h_row:zHD l.prog w K mg base C 1 "row" 3 (zH8 C):=⟨_,_,_,zF0 F25 zUU (d_row  hT hCl) (λa _ _ _ _ h=>qW h a),⟨a25,n25,k25⟩,b25⟩
 have h_moves_of:zRY l.prog w K mg base C 2 "moves_of" 2 (zBG C):=⟨_,_,_,zRX F26 zFS (zK5 h_state_of h_row hT hCl) (λa _ _ _ _ h=>qW h a),⟨a26,n26,k26⟩,b26⟩
 have h_moves:zHD l.prog w K mg base C 3 "moves" 1 (yM C):=⟨_,_,_,zF0 F27 zKK (zSM h_moves_of hT hCl) (λa _ _ _ _ h=>qW h a),⟨a27,n27,k27⟩,b27⟩
 have h_is_whole:z7 l.prog w K mg base 1 "is_whole" 1 zAJ:=qU F28 (zU1 X G a28) b28 zJJ (zK6  hT hCl) (λ_ _ _ h=>h)
 have h_can_be_done:zHD l.prog w K mg base C 4 "can_be_done" 2 (qB C):=⟨_,_,_,zF0 F29 zFd (zHC h_is_whole h_moves hT hCl) (λa _ _ _ _ h=>qW h a),⟨a29,n29,k29⟩,b29⟩
 have h_go_on:zSR l.prog w K mg base C 2 "go_on" 3 (zB7 C):=⟨_,_,_,zPv F30 zPR (zSN h_state_of hT hCl) (λa _ _ _ _ h=>qW h a),⟨a30,n30,k30⟩,b30⟩
 have h_do:zSR l.prog w K mg base C 5 "do" 2 (zR7 C):=⟨_,_,_,zPv F31 zUV (d_do h_can_be_done h_go_on hT hCl) (λa _ _ _ _ h=>qW h a),⟨a31,n31,k31⟩,b31⟩
 have h_law_mover:z7 l.prog w K mg base 1 "_law_mover" 1 qN:=qU F32 (zU1 X G a32) b32 zIL (zJK  hT hCl) (λ_ _ _ h=>h)
 have h_states:zHD l.prog w K mg base C 1 "states" 1 (zCK C):=⟨_,_,_,zF0 F33 zNb (zPS  hT hCl) (λa _ _ _ _ h=>qW h a),⟨a33,n33,k33⟩,b33⟩
 have h_law_behind:z7 l.prog w K mg base 8 "_law_behind" 2 (q9 C):=qU F34 (zU1 X G a34) b34 zDG (zIM hMk FO_init hB_init hM_Hall h_do h_states h_moves h_row hT hCl) (λ_ _ _ h=>h)
 exact zTJ F35 zQB (d_law h_law_dance h_law_hall h_done h_law_spoilt h_moves h_law_cell h_do h_law_mover h_law_behind h_law_mix hT hCl) (λds d _ h=>by
  unfold zNc at h
  split at h
  ·rename_i q
   obtain ⟨ns,rfl,hl⟩:=q
   cases h
   exact law_is C ns hl
  ·cases h)
theorem walk {l:PySem.W.OpenLaw} {q:Program} {loose:List Str} {XP:(Str->Option Value)->Heap->Prop} {YP:World->Heap->Prop} {d:DefRec} {K:Params->Fg} (hn:l.most=some 63) (hdf:d.params.defaults = [])
  (hY:∀ (w:World) (h:Heap),YP w h->(K w.params).In h)
  (F:∀ (w:World) (mg:MGt) (fa:Addr) (h:Heap),(K w.params).In h->h.Ns mainGlobals mg->mg d.name=some (.ref fa) ->
   ∃ fd:FuncData,(∀ (s:Shared) (u:Value),BindsTo s fd ⟨[u],[]⟩ [("_law_script",u)])/\∀ base:Heap,(K w.params).In base->base.Ns mainGlobals mg->zCb l.prog w (K w.params) mg base CX0 9 fa fd ["_law_script"] (spD (K w.params) zNc 1)) :
  PySem.W.WalkO q loose XP YP l.row.toRowW d [] (λf vs=>PySem.call f vs):=
 L2.zLj (n:=63) (k:=9) (x:="_law_script") (CX:=λ_=>CX0) (sp:=λw=>spD (K w.params) zNc 1) hn (by decide) hdf ⟨rfl,by decide,by decide⟩ hY F (λw H a ns hl _ hS=>by
  refine ⟨H,[.lst (ns.map D.int)],.bl true,zi.refl _,Reps.cons (zAS.mpr ⟨a,_,rfl,hS,Reps.ints ns⟩) Reps.nil,rfl,?_,λv G' H' _ r=>yQ.mp r⟩
  unfold zNc
  exact zUp ⟨ns,rfl,hl⟩) λ_ _ _ _ _ z=>z
end K09
end
open PySem PySem.W PyProof.Rows
theorem PySem.Challenge.cw_reelhall_k09_whole_either_order_holds : PySem.Challenge.rw_reelhall_k09_whole_either_order.Holds :=
 K09.headT fun hdf hdn hY hF => K09.walk (l := PySem.Challenge.rw_reelhall_k09_whole_either_order) rfl hdf hY fun w mg fa h KX G hmg => K09.zUW KX G (hdn ▸ hmg) (hF w)
