import PyProof.Rows.All
import Wide.All
import OpenK.AllK
import Wide.FinOn
import Lean
import PyProof.EqAt
import PyProof.EqKinds
import PyProof.TupleCall
import PyProof.NeKinds
import PyProof.Rows.SortStr
import PyProof.Rows.SortWalk
import KE.KDictOf
import PyProof.AttrMissSeq
import KE.KDictSum
import PyProof.ListMulRoad
import PyProof.FactsAll.tuple_2
import OpenK.KRaise
import PyProof.ExcClass3
import PyProof.StationsW
import PyProof.PassesOwn
import PyProof.ExcBaseAll.ValueError
import OpenK.KOwn
import KE.KDictLaws
import PyProof.DictFindH
import PyProof.DictRoadsH
import PyProof.Rows.TupDisplay
import PySem.Challenge.RW_reelhall_k08_whole_each_way_can_be_dance
set_option Elab.async false
set_option linter.all false
set_option maxRecDepth 100000
set_option maxHeartbeats 8000000
def zUs:=@Option.bind_eq_some_iff
def zUt:=@Option.map_eq_some_iff
def zUu:=@List.mem_cons_of_mem
def zUv:=@List.length_cons
def zUw:=@Option.bind_some
def zUx:=@List.map_cons
def zUy:=@List.mem_singleton
def zUz:=@PySem.wpAny_bind
def zU0:=@List.mem_cons_self
def zU1:=@List.mem_cons
def zU2:=@List.mem_append
def zU3:=@List.size_toArray
def zU4:=@List.length_map
def zU5:=@PySem.Heap.get?_push_of_some
def zU6:=@PySem.wpAny_pure
def zU7:=@List.getElem?_eq_some_iff
def zU8:=@Nat.lt_of_lt_of_le
def zU9:=@List.length_append
def zVA:=@Nat.le_refl
def zVB:=@PySem.Heap.lt_size
def zVC:=@List.length_nil
def zVD:=@List.mem_append_right
def zVE:=@if_pos
def zVF:=@List.mem_of_getElem?
def zVG:=@Option.map_some
def zVH:=@List.getElem?_set_ne
def zVI:=@List.pairwise_cons
def zVJ:=@beq_self_eq_true
def zVK:=@List.map_append
def zVL:=@PySem.W.mg_of
def zVM:=@List.lookup_cons
def zVN:=@Nat.ne_of_lt
def zVO:=@PySem.Heap.get?_push_size
def zVP:=@List.getElem?_append_left
def zVQ:=@List.getElem?_set_self
def zVR:=@List.mem_filterMap
def zVS:=@List.getElem?_cons_zero
def zVT:=@List.mem_map
def zVU:=@List.find?_cons
def zVV:=@Bool.false_ne_true
def zVW:=@List.getElem?_append_right
def zVX:=@List.flatMap_cons
def zVY:=@List.length_singleton
def zVZ:=@List.append_nil
def zVa:=@List.nodup_cons
def zVb:=@Nat.le_trans
def zVc:=@List.getElem?_map
def zVd:=@beq_eq_false_iff_ne
def zVe:=@if_neg
def zVf:=@List.getElem?_cons_succ
def zVg:=@PySem.PassesOwn.never
def zVh:=@decide_eq_false
def zVi:=@List.mem_append_left
def zVj:=@PySem.boot_len
def zVk:=@PySem.wpAny_mono
def zVl:=@PySem.W.mg_none_of
def zVm:=@Bool.and_eq_true
def zVn:=@List.nodup_append
def zVo:=@List.getElem?_replicate
def zVp:=@if_true
def zVq:=@Int.natCast_one
def zVr:=@List.append_assoc
def zVs:=@Option.some.inj
def zVt:=@List.map_map
def zVu:=@Bool.false_eq_true
def zVv:=@PySem.F.slot_dict_setdefault
def zVw:=@congrArg
def zVx:=@List.map_congr_left
def zVy:=@List.cons_append
def zVz:=@decide_eq_true
def zV0:=@Int.toNat_one
def zV1:=@PySem.F.plainAttrs_list
def zV2:=@decide_false
def zV3:=@List.mem_filter
def zV4:=@List.range_one
def zV5:=@List.mem_flatMap
def zV6:=@PySem.mem_of_lookup
def zV7:=@List.map_nil
def zV8:=@if_false
def zV9:=@List.cons.injEq
def zWA:=@List.nil_append
def zWB:=@List.filterMap_cons
def zWC:=@PyProof.Rows.slot_tuple_getitem
def zWD:=@List.mem_range
def zWE:=@Nat.lt_irrefl
def zWF:=@PySem.F.args_dict_setdefault_3
def zWG:=@PySem.tupleKind_room_in1
def zWH:=@PySem.F.entry_dict_setdefault
def zWI:=@PySem.W.hideAll_none
def zWJ:=@PySem.wpAny_truthy_bool
def zWK:=@List.filter_eq_self
def zWL:=@PyProof.Rows.callWith_type1
def zWM:=@PySem.W.hideAll_get
def zWN:=@Int.emod_lt_of_pos
def zWO:=@List.any_cons
def zWP:=@List.set_cons_zero
def zWQ:=@PySem.wpAny_holding
def zWR:=@List.drop_eq_getElem_cons
def zWS:=@Nat.zero_le
def zWT:=@List.mem_iff_getElem
def zWU:=@Int.emod_nonneg
def zWV:=@PySem.F.slot_list_append
def zWW:=@PySem.F.type_list_append
def zWX:=@decide_eq_true_eq
def zWY:=@PySem.wpAny_passesOwn
def zWZ:=@PySem.sizeLine_eq
def zWa:=@List.all_eq_true
def zWb:=@List.getElem_mem
def zWc:=@PySem.Heap.get?_update_other
def zWd:=@List.mem_replicate
def zWe:=@PySem.wpAny_Call_Name_kw
def zWf:=@Bool.beq_eq_decide_eq
def zWg:=@List.foldl_cons
def zWh:=@PySem.W.kia_one
def zWi:=@PySem.wpAny_execs_nil
def zWj:=@Int.toNat_natCast
def zWk:=@Option.some.injEq
def zWl:=@PySem.Paired.length
def zWm:=@beq_iff_eq
def zWn:=@PySem.wpAny_newObj_type
def zWo:=@List.length_dropLast
def zWp:=@List.Perm.refl
def zWq:=@Array.length_toList
def zWr:=@List.not_lt
def zWs:=@PySem.F.args_tuple_add_2
def zWt:=@PySem.wpAny_comprehension_free
def zWu:=@PySem.wpAny_typeOf
def zWv:=@Bool.or_false
def zWw:=@List.length_eq_zero_iff
def zWx:=@PySem.F.entry_tuple_add
def zWy:=@PySem.F.plainAttrs_dict
def zWz:=@PySem.W.of_hideAll
def zW0:=@PySem.Calls.callWith_builtin
def zW1:=@PySem.F.slot_tuple_add
def zW2:=@PySem.W.funFrames_hide
def zW3:=@List.length_range
def zW4:=@Nat.le_succ
def zW5:=@PySem.atKey_none_of_get
def zW6:=@decide_true
def zW7:=@PySem.wpAny_field
def zW8:=@PySem.Heap.size_push
def zW9:=@Array.getElem?_toList
def zXA:=@PySem.Heap.get?_update_self
def zXB:=@List.length_filter_le
def zXC:=@List.length_replicate
def zXD:=@PySem.F.slot_dict_get
def zXE:=@PySem.W.methodCall_KW
def zXF:=@PySem.call_meetsIn
def zXG:=@List.any_eq_true
def zXH:=@List.length_drop
def zXI:=@List.length_take
def zXJ:=@List.take_length
def zXK:=@Nat.lt_succ_self
def zXL:=@decide_eq_decide
def zXM:=@Bool.eq_iff_iff
def zXN:=@Bool.or_eq_true
def zXO:=@List.flatMap_append
def zXP:=@List.lookup_nil
def zXQ:=@PySem.W.plainGet_of
def zXR:=@List.set_cons_succ
def zXS:=@Nat.ne_of_gt
def zXT:=@PySem.W.callWith_K
set_option bootstrap.genMatcherCode false
noncomputable section
abbrev Fg:=PySem.W.Frag
abbrev MGt:=PySem.Str->Option PySem.Value
abbrev PNt:=List (PySem.Addr×PySem.Obj)
abbrev VSt:=PySem.Value->PySem.Shared->Prop
namespace L2
open PySem
def zCZ (s:Stmt):Arguments:=match s with
 |.FunctionDef _ a _ _ _ _ _ _ _ _=>a
 |_=>{ posonlyargs:=[],args:=[],vararg:=none,kwonlyargs:=[],kw_defaults:=[],kwarg:=none,defaults:=[] }
def z8 (s:Stmt):List Stmt:=match s with
 |.FunctionDef _ _ b _ _ _ _ _ _ _=>b
 |_=>[]
def zI (s:Stmt):Scope:=match s with
 |.FunctionDef _ _ _ _ _ _ sc _ _ _=>sc
 |_=>{ kind:=.function,names:=[],isGenerator:=false,isCoroutine:=false }
end L2
namespace K08
open PySem PySem.Spec PyProof.Rows L2
def top (i:Nat):Stmt:=PySem.Challenge.pw_reelhall_k08_whole_each_way_can_be_dance.main.body.getD i (.Pass ⟨0,0,0,0⟩)
def zGK (j:Nat):Stmt->Stmt
 |.ClassDef _ _ _ body _ _ _ _ _ _ _=>body.getD j (.Pass ⟨0,0,0,0⟩)
 |s=>s
abbrev zEO:Stmt:=top 24
abbrev zDL:Stmt:=top 23
abbrev zBC:Stmt:=top 26
abbrev zAF:Stmt:=top 28
abbrev zDM:Stmt:=top 25
abbrev zBD:Stmt:=top 29
abbrev zDN:Stmt:=top 27
abbrev zAG:Stmt:=top 30
abbrev zCa:Stmt:=top 31
abbrev zBn:Stmt:=top 9
abbrev zEP:Stmt:=top 12
abbrev zBE:Stmt:=top 13
abbrev zBo:Stmt:=top 7
abbrev zIQ:Stmt:=top 10
abbrev zEQ:Stmt:=top 17
abbrev yX:Stmt:=top 18
abbrev zDO:Stmt:=top 14
abbrev zAk:Stmt:=top 15
abbrev zAH:Stmt:=top 16
abbrev zER:Stmt:=top 19
abbrev zLM:Stmt:=zGK 0 (top 21)
abbrev zDP:Stmt:=top 33
abbrev zES:Stmt:=top 35
abbrev zBp:Stmt:=top 32
abbrev zDQ:Stmt:=top 6
abbrev zDR:Stmt:=zGK 3 (top 21)
abbrev zQe:Stmt:=zGK 2 (top 21)
abbrev zDS:Stmt:=zGK 4 (top 21)
abbrev zIR:Stmt:=zGK 5 (top 21)
abbrev zBF:Stmt:=zGK 6 (top 21)
abbrev zIS:Stmt:=zGK 8 (top 21)
abbrev s_do:Stmt:=zGK 7 (top 21)
abbrev zCb:Stmt:=top 36
abbrev zCc:Stmt:=top 34
abbrev zLN:Stmt:=zGK 9 (top 21)
abbrev zGL:Stmt:=top 37
abbrev zBi (K:Fg) (f:Addr) (x q:Str) (st:Stmt):Prop:=∃ oc od kV dc pm an cd ct sl,K.lookup f=some ⟨oc,od,.func (PySem.W.fnOf x q (zCZ st) (z8 st) (zI st) .none kV dc pm an cd ct),sl⟩/\PySem.W.codeIn K cd q=true/\PySem.W.keepIn K (.ref f)=true
abbrev Gb (K:Fg) (x:Str) (f:Addr):Prop:=PySem.W.nsIn K mainGlobals x=some (some (.ref f))
abbrev Nb (K:Fg) (x:Str):Prop:=PySem.W.nsIn K mainGlobals x=some none
abbrev Ab (K:Fg) (C:Addr) (x:Str) (f:Addr):Prop:=PySem.W.findIn K (.ref C) x=some (some (.ref f))
def zPq (K:Fg):Prop:=∀ P:Prop,(∀ {C np f0 f1 f2 f3 f4 f5 f6 f7 f8 f9 f10 f11 f12 f13 f14 f15 f16 f17 f18 f19 f20 f21 f22 f23 f24 f25 f26 f27 f28 f29 f30 f31 f32 f33 f34 f35:Addr}
  {odL anL:Option Addr} {slL:Array (Option Value)} {ocL kVL dcL pmL cdL ctL:Value}
  (aH:Gb K "Hall" C) (aN:Gb K "NoPart" np)
  (a0:Gb K "_law_mix" f0) (p0:zBi K f0 "_law_mix" "_law_mix" zEO)
  (a1:Gb K "_law_cell" f1) (p1:zBi K f1 "_law_cell" "_law_cell" zDL)
  (a2:Gb K "_law_is_late" f2) (p2:zBi K f2 "_law_is_late" "_law_is_late" zBC)
  (a3:Gb K "_law_told_late" f3) (p3:zBi K f3 "_law_told_late" "_law_told_late" zAF)
  (a4:Gb K "_law_word" f4) (p4:zBi K f4 "_law_word" "_law_word" zDM)
  (a5:Gb K "_law_told_on" f5) (p5:zBi K f5 "_law_told_on" "_law_told_on" zBD)
  (a6:Gb K "_law_size" f6) (p6:zBi K f6 "_law_size" "_law_size" zDN)
  (a7:Gb K "_law_apart_two" f7) (p7:zBi K f7 "_law_apart_two" "_law_apart_two" zAG)
  (a8:Gb K "_law_dance" f8) (p8:zBi K f8 "_law_dance" "_law_dance" zCa)
  (a9:Gb K "takes_part" f9) (p9:zBi K f9 "takes_part" "takes_part" zBn)
  (a10:Gb K "is_turn" f10) (p10:zBi K f10 "is_turn" "is_turn" zEP)
  (a11:Gb K "turns_among" f11) (p11:zBi K f11 "turns_among" "turns_among" zBE)
  (a12:Gb K "choices_of" f12) (p12:zBi K f12 "choices_of" "choices_of" zBo)
  (a13:Gb K "apart" f13) (p13:zBi K f13 "apart" "apart" zIQ)
  (a14:Gb K "in_vain" f14) (p14:zBi K f14 "in_vain" "in_vain" zEQ)
  (a15:Gb K "refuse_waiting_in_vain" f15) (p15:zBi K f15 "refuse_waiting_in_vain" "refuse_waiting_in_vain" yX)
  (a16:Gb K "asked_at" f16) (p16:zBi K f16 "asked_at" "asked_at" zDO)
  (a17:Gb K "asked_at_all" f17) (p17:zBi K f17 "asked_at_all" "asked_at_all" zAk)
  (a18:Gb K "nexts_by_word" f18) (p18:zBi K f18 "nexts_by_word" "nexts_by_word" zAH)
  (a19:Gb K "part_of" f19) (p19:zBi K f19 "part_of" "part_of" zER)
  (a20:Ab K C "__init__" f20) (p20:zBi K f20 "__init__" "Hall.__init__" zLM)
  (k20:PySem.W.keepIn K (.ref f20)=true) (n20:PySem.W.isFn K (.ref f20)=true)
  (a21:Gb K "_law_hall" f21) (p21:zBi K f21 "_law_hall" "_law_hall" zDP)
  (a22:Gb K "_law_way" f22) (p22:zBi K f22 "_law_way" "_law_way" zES)
  (a23:Gb K "_law_spoilt" f23) (p23:zBi K f23 "_law_spoilt" "_law_spoilt" zBp)
  (a24:Gb K "is_whole" f24) (p24:zBi K f24 "is_whole" "is_whole" zDQ)
  (a25:Ab K C "state_of" f25) (p25:zBi K f25 "state_of" "Hall.state_of" zDR)
  (k25:PySem.W.keepIn K (.ref f25)=true) (n25:PySem.W.isFn K (.ref f25)=true)
  (a26:Ab K C "row" f26) (p26:zBi K f26 "row" "Hall.row" zQe)
  (k26:PySem.W.keepIn K (.ref f26)=true) (n26:PySem.W.isFn K (.ref f26)=true)
  (a27:Ab K C "moves_of" f27) (p27:zBi K f27 "moves_of" "Hall.moves_of" zDS)
  (k27:PySem.W.keepIn K (.ref f27)=true) (n27:PySem.W.isFn K (.ref f27)=true)
  (a28:Ab K C "moves" f28) (p28:zBi K f28 "moves" "Hall.moves" zIR)
  (k28:PySem.W.keepIn K (.ref f28)=true) (n28:PySem.W.isFn K (.ref f28)=true)
  (a29:Ab K C "can_be_done" f29) (p29:zBi K f29 "can_be_done" "Hall.can_be_done" zBF)
  (k29:PySem.W.keepIn K (.ref f29)=true) (n29:PySem.W.isFn K (.ref f29)=true)
  (a30:Ab K C "go_on" f30) (p30:zBi K f30 "go_on" "Hall.go_on" zIS)
  (k30:PySem.W.keepIn K (.ref f30)=true) (n30:PySem.W.isFn K (.ref f30)=true)
  (a31:Ab K C "do" f31) (p31:zBi K f31 "do" "Hall.do" s_do)
  (k31:PySem.W.keepIn K (.ref f31)=true) (n31:PySem.W.isFn K (.ref f31)=true)
  (a32:Gb K "_law_heard" f32) (p32:zBi K f32 "_law_heard" "_law_heard" zCb)
  (a33:Gb K "_law_deeds" f33) (p33:zBi K f33 "_law_deeds" "_law_deeds" zCc)
  (a34:Ab K C "done" f34) (p34:zBi K f34 "done" "Hall.done" zLN)
  (k34:PySem.W.keepIn K (.ref f34)=true) (n34:PySem.W.isFn K (.ref f34)=true)
  (a35:Gb K "law" f35) (l35:K.lookup f35=some ⟨ocL,odL,.func (PySem.W.fnOf "law" "law" (zCZ zGL) (z8 zGL) (zI zGL) .none kVL dcL pmL anL cdL ctL),slL⟩) (c35:PySem.W.codeIn K cdL "law" = true) (k35:PySem.W.keepIn K (.ref f35)=true)
  (z_len:Nb K "len")
  (z_range:Nb K "range")
  (z_enumerate:Nb K "enumerate")
  (z_sorted:Nb K "sorted")
  (z_tuple:Nb K "tuple")
  (z_list:Nb K "list")
  (z_int:Nb K "int")
  (z_dict:Nb K "dict")
  (z_isinstance:Nb K "isinstance")
  (z_all:Nb K "all")
  (z_any:Nb K "any")
  (z_str:Nb K "str")
  (z_bool:Nb K "bool")
  (q1:PySem.W.plainGet K C Str.empty=true)
  (q2:PySem.W.hasDictIn K C=true)
  (q3:PySem.W.plainOver K C=true)
  (q4:PySem.W.findIn K (.ref C) "__setattr__" = some (some (.builtin "object.__setattr__")))
  (q5:PySem.W.makesIn K C=true)
  (q6:PySem.W.keepIn K (.ref C)=true)
  (q7:PySem.W.excIn K np [.type "ValueError",.type "Exception",.type "BaseException",.type "object"] "ValueError.__new__" = true)
  (q_parts:PySem.W.findIn K (.ref C) "parts" = some none)
  (q_at:PySem.W.findIn K (.ref C) "at" = some none)
  (q_rows:PySem.W.findIn K (.ref C) "rows" = some none)
  (q_past:PySem.W.findIn K (.ref C) "past" = some none)
  ,P)->P
open PySem.W
local macro_rules | `(tactic| refine $h:ident $a1 $a2 $a3 $a4 $a5 $a6 $a7 $a8 ?$z:ident $r*) => do let r := r.pop.push (← `($(Lean.mkIdent `wkT) rfl rfl (fun _ _ Y => kIn_of Y) ?hf)); `(tactic| refine' $h $a1 $a2 $a3 $a4 $a5 $a6 $a7 $a8 ?hx $r*)
set_option maxHeartbeats 0 in
theorem headT (wkT:∀ {q:Program} {loose:List Str} {XP:(Str->Option Value)->Heap->Prop} {YP:World->Heap->Prop} {d:DefRec} {K:Params->Fg},d.params.defaults = []->d.name = "law"->(∀ (w:World) (h:Heap),YP w h->(K w.params).In h)->(∀ w:World,zPq (K w.params)) ->
  PySem.W.WalkO q loose XP YP PySem.Challenge.rw_reelhall_k08_whole_each_way_can_be_dance.row.toRowW d [] (λf vs=>PySem.call f vs)):PySem.Challenge.rw_reelhall_k08_whole_each_way_can_be_dance.Holds:=by
 w_on;o_law;k_head
 ·intro w;kernel_rfl
 (case hw=>w_witness2)
 k_fill
 intro w P k
 refine' k ?_ ?_ ?_ ?_ ?_ ?_ ?_ ?_ ?_ ?_ ?_ ?_ ?_ ?_ ?_ ?_ ?_ ?_ ?_ ?_ ?_ ?_ ?_ ?_ ?_ ?_ ?_ ?_ ?_ ?_ ?_ ?_ ?_ ?_ ?_ ?_ ?_ ?_ ?_ ?_ ?_ ?_ ?_ ?_ ?_ ?_ ?_ ?_ ?_ ?_ ?_ ?_ ?_ ?_ ?_ ?_ ?_ ?_ ?_ ?_ ?_ ?_ ?_ ?_ ?_ ?_ ?_ ?_ ?_ ?_ ?_ ?_ ?_ ?_ ?_ ?_ ?_ ?_ ?_ ?_ ?_ ?_ ?_ ?_ ?_ ?_ ?_ ?_ ?_ ?_ ?_ ?_ ?_ ?_ ?_ ?_ ?_ ?_ ?_ ?_ ?_ ?_ ?_ ?_ ?_ ?_ ?_ ?_ ?_ ?_ ?_ ?_ ?_ ?_ ?_ ?_ ?_ ?_
 all_goals try first|k_is|(show PySem.W.nsIn _ _ _=_;k_is)|(show PySem.W.findIn _ _ _=_;k_is)|exact ⟨_,_,_,_,_,_,_,_,_,by k_is,by k_is,by k_is⟩|kernel_rfl
end K08
namespace L2
open PySem PySem.Spec PyProof.Rows
abbrev Key:=Sum Int Str
def zIT:Key->Value->Bool
 |.inl k,v=>Value.isInt k v
 |.inr x,v=>Value.isStrOf x v
def keyH (w:World):Key->Int
 |.inl k=>hashInt k
 |.inr x=>hashStr w x
theorem yU:∀ {k:Key} {v:Value},zIT k v=true->(∃ i t,k=Sum.inl i/\v=Value.int i t)\/(∃ x t,k=Sum.inr x/\v=Value.str x t)
 |.inl i,v,h=>by
  obtain ⟨t,e⟩:=Value.isInt_shape (k:=i) (v:=v) h
  exact .inl ⟨i,t,rfl,e⟩
 |.inr x,v,h=>by
  obtain ⟨t,e⟩:=Value.isStrOf_shape (x:=x) (v:=v) h
  exact .inr ⟨x,t,rfl,e⟩
theorem zLO (i:Int) (t:Tok):zIT (.inl i) (.int i t)=true:=by simp [zIT,Value.isInt]
theorem zLP (x:Str) (t:Tok):zIT (.inr x) (.str x t)=true:=by simp [zIT,Value.isStrOf]
theorem zSt (a b:Int):decide ((Sum.inl a:Key)=Sum.inl b)=(a == b):=by
 by_cases e:a=b
 ·subst e;simp
 ·have h:¬ (Sum.inl a:Key)=Sum.inl b:=λq=>e (Sum.inl.inj q)
  rw [zVh h]
  exact (zVd.mpr e).symm
theorem zSu (a b:Str):decide ((Sum.inr a:Key)=Sum.inr b)=decide (a=b):=by
 by_cases e:a=b
 ·subst e;simp
 ·have h:¬ (Sum.inr a:Key)=Sum.inr b:=λq=>e (Sum.inr.inj q)
  rw [zVh h,zVh e]
theorem zSv (a:Int) (b:Str):decide ((Sum.inl a:Key)=Sum.inr b)=false:=zVh (λq=>nomatch q)
theorem zSw (a:Str) (b:Int):decide ((Sum.inr a:Key)=Sum.inl b)=false:=zVh (λq=>nomatch q)
def z6 (prog:Program) (w:World):PySem.KeyKind prog w Key where
 is:=zIT
 hash:=keyH w
 inj:=λv a b ha hb=>by
  rcases yU ha with ⟨i,t,rfl,rfl⟩|⟨x,t,rfl,rfl⟩
  ·rcases yU hb with ⟨j,u,rfl,e⟩|⟨y,u,rfl,e⟩
   ·injection e with e1 _;rw [e1]
   ·exact nomatch e
  ·rcases yU hb with ⟨j,u,rfl,e⟩|⟨y,u,rfl,e⟩
   ·exact nomatch e
   ·injection e with e1 _;rw [e1]
 byValue:=λk v h=>by
  rcases yU h with ⟨i,t,rfl,rfl⟩|⟨x,t,rfl,rfl⟩<;>rfl
 pyHash:=λhv h=>by
  rcases yU hv with ⟨i,t,rfl,rfl⟩|⟨x,t,rfl,rfl⟩
  ·exact wpAny_pyHash_int h
  ·exact wpAny_pyHash_str h
 eqBool:=λhu hv h=>by
  rcases yU hu with ⟨i,t,rfl,rfl⟩|⟨x,t,rfl,rfl⟩
  ·rcases yU hv with ⟨j,u,rfl,rfl⟩|⟨y,u,rfl,rfl⟩
   ·rw [zSt] at h;exact wpAny_eqBool_int h
   ·rw [zSv] at h;exact SeqAt.EqAt.int_str i t y u _ _ _ _ h
  ·rcases yU hv with ⟨j,u,rfl,rfl⟩|⟨y,u,rfl,rfl⟩
   ·rw [zSw] at h;exact SeqAt.EqAt.str_int x t j u _ _ _ _ h
   ·rw [zSu] at h;exact wpAny_eqBool_str h
 «strs»:=λk x t v h=>by
  rcases yU h with ⟨i,u,rfl,e⟩|⟨y,u,rfl,e⟩
  ·exact nomatch e
  ·injection e with e1 _
   subst e1
   cases v<;>rfl
theorem zIU (prog:Program) (w:World) (i:Int) (t:Tok):(z6 prog w).is (.inl i) (.int i t)=true:=zLO i t
theorem zIV (prog:Program) (w:World) (x:Str) (t:Tok):(z6 prog w).is (.inr x) (.str x t)=true:=zLP x t
end L2
namespace L2
open PySem PySem.Spec PyProof.Rows
inductive V where
 |non|bl (b:Bool)|int (i:Int)|str (x:Str)|byt (b:Array UInt8)|flt (b:UInt64)|ref (a:Addr)|ty (n:String)
 deriving DecidableEq
def yn:V->Value->Prop
 |.non,u=>u=Value.none
 |.bl b,u=>u=Value.bool b
 |.int i,u=>∃ t,u=Value.int i t
 |.str x,u=>∃ t,u=Value.str x t
 |.byt b,u=>∃ t,u=Value.bytes b t
 |.flt b,u=>∃ t,u=Value.float b t
 |.ref a,u=>u=Value.ref a
 |.ty n,u=>u=Value.type n
abbrev yN:List V->List Value->Prop:=Paired yn
theorem yN.length {xs:List V} {us:List Value} (r:yN xs us):xs.length=us.length:=zWl r
theorem yN.get:∀ {xs:List V} {us:List Value} {i:Nat} {x:V},yN xs us->xs[i]?=some x->∃ u,us[i]?=some u/\yn x u
 |_,_,_,_,.nil,e=>by simp at e
 |_,_,0,_,.cons r _,e=>by simp at e;subst e;exact ⟨_,rfl,r⟩
 |_,_,i+1,x,.cons _ t,e=>by
  obtain ⟨u,h1,h2⟩:=yN.get (i:=i) (x:=x) t (by simpa using e)
  exact ⟨u,by simpa using h1,h2⟩
theorem yN.set {x:V} {u:Value} (r:yn x u):∀ {xs:List V} {us:List Value} (i:Nat),yN xs us->yN (xs.set i x) (us.set i u)
 |_,_,_,.nil=>.nil
 |_,_,0,.cons _ t=>.cons r t
 |_,_,i+1,.cons q t=>.cons q (yN.set r i t)
theorem yN.append:∀ {xs ys:List V} {us ws:List Value},yN xs us->yN ys ws->yN (xs++ys) (us++ws)
 |_,_,_,_,.nil,s=>s
 |_,_,_,_,.cons r t,s=>.cons r (yN.append t s)
theorem yN.take:∀ {xs:List V} {us:List Value} (n:Nat),yN xs us->yN (xs.take n) (us.take n)
 |_,_,0,_=>.nil
 |_,_,_+1,.nil=>.nil
 |_,_,n+1,.cons r t=>.cons r (yN.take n t)
theorem yN.drop:∀ {xs:List V} {us:List Value} (n:Nat),yN xs us->yN (xs.drop n) (us.drop n)
 |_,_,0,r=>r
 |_,_,_+1,.nil=>.nil
 |_,_,n+1,.cons _ t=>yN.drop n t
def zFR:Option V->Option Value->Prop
 |some v,some u=>yn v u
 |none,none=>True
 |_,_=>False
def KV {κ:Type}:List (κ×V)->List (κ×Value)->Prop:=Paired λ(p:κ×V) (q:κ×Value)=>p.1=q.1/\yn p.2 q.2
def kV:Key->V
 |.inl i=>.int i
 |.inr x=>.str x
inductive HO where
  |lst (xs:List V)
  |tup (xs:List V)
  |dK (kvs:List (Key×V))|dT (kvs:List (List Key×V))
  |set (S:Int->Bool) (n:Nat)
  |ins (C dx:Addr) (fs:List (Str×V))
  |own (x:Addr)
  |xd (fs:List (Str×V))
  |met (f x:Addr)
  |rng (lo hi:Int)
  |frz (o:Obj) (u:HO)
  |tbl (ps:Array Value)
  |ext (φ:Heap->Prop)
def zAw (h:Heap) (a:Addr) (items:Array Value):Prop:=∃ o,h.get? a=some o/\o.cls = .type "tuple"/\∃ n,o.data = .seq items n/\o.dict=none
theorem zAw.tup {h:Heap} {a:Addr} {items:Array Value} (x:zAw h a items):IsTup h a items:=let ⟨o,e,c,n,d,_⟩:=x;⟨o,e,c,n,d⟩
theorem zAw.lt {h:Heap} {a:Addr} {items:Array Value} (x:zAw h a items):a<h.objs.size:=x.tup.lt
theorem zAw.new (h:Heap) (items:Array Value):zAw (h.push { cls:=.type "tuple",data:=.seq items }) h.objs.size items:=⟨_,zVO _ rfl,rfl,_,rfl,rfl⟩
abbrev Hp:=Addr->Option HO
def upd (H:Hp) (a:Addr) (o:HO):Hp:=λb=>if b=a then some o else H b
theorem zN {H:Hp} {a:Addr} {o:HO}:upd H a o a=some o:=by unfold upd;rw [zVE rfl]
theorem zJ {H:Hp} {a b:Addr} {o:HO} (h:b≠a):upd H a o b=H b:=by unfold upd;rw [zVe h]
theorem zQf {H:Hp} {a b:Addr} {o u:HO} (h:H a=some o) (h':H b=some u) (d:o≠u):a≠b:=by
 intro e;subst e;rw [h] at h';exact d (zVs h')
theorem yl {H:Hp} {a b:Addr} {o:HO} (h:H a=some o) (h':H b=none):a≠b:=by
 intro e;subst e;rw [h] at h';cases h'
section
variable (P:Program) (w:World)
def qo (H:Hp) (h:Heap) (a:Addr):HO->Prop
 |.lst xs=>xs.length<=sizeLine/\∃ (its:List Value) (n:Nat),yN xs its/\h.get? a=some { cls:=.type "list",data:=.seq its.toArray n }
 |.tup xs=>xs.length<=sizeLine/\∃ its:List Value,yN xs its/\zAw h a its.toArray
 |.dK kvs=>kvs.length<=sizeLine/\(a == sysModules)=false/\∃ vs,KV kvs vs/\h.DictOf (z6 P w) a vs
 |.dT kvs=>kvs.length<=sizeLine/\(a == sysModules)=false/\∃ xs:List (List Key×Addr×Value),
   Paired (λ(p:List Key×V) (q:List Key×Addr×Value)=>p.1=q.1/\H q.2.1=some (.tup (p.1.map kV))/\yn p.2 q.2.2) kvs xs /\
   ∃ o es ep,h.get? a=some o/\o.ExactDict/\o.data = .dict es ep/\es.toList=xs.map (entryOfKey (tupleKind (z6 P w)))/\(xs.map (·.1)).Nodup
 |.set S n=>h.SetOf (intKind P w) a S n
 |.ins C dx fs=>H dx=some (.own a)/\fs.length<=1000/\dx≠a/\h.get? a=some (PySem.W.instObj C dx) /\
   ∃ mA,h.Ns1 dx mA/\(∀ f,zFR (fs.lookup f) (mA f))/\PySem.Within mA (fs.map (·.1))
 |.own _=>∃ o,h.get? a=some o
 |.xd fs=>∃ mA,h.Ns1 a mA/\∀ f,zFR (fs.lookup f) (mA f)
 |.rng lo hi=>∃ t u v,h.get? a=some { cls:=.type "range",data:=.fields #[.int lo t,.int hi u,.int 1 v] }
 |.frz o u=>h.get? a=some o/\qo H h a u
 |.tbl ps=>h.get? a=some { cls:=.none,data:=.fields ps }
 |.met f x=>h.get? a=some (PySem.W.methodObj (.ref f) (.ref x))
 |.ext φ=>φ h/\(∃ o,h.get? a=some o)/\∀ h1 h2:Heap,φ h1->(∀ o,h1.get? a=some o->h2.get? a=some o)->φ h2
def HOk (H:Hp) (h:Heap):Prop:=∀ a o,H a=some o->qo P w H h a o
end
section
variable {P:Program} {w:World} {H H':Hp} {h h':Heap} {a:Addr} {o:HO}
theorem qo.lt (x:qo P w H h a o):a<h.objs.size:=by
 cases o with
 |lst xs=>obtain ⟨_,_,_,_,e⟩:=x;exact zVB e
 |tup xs=>obtain ⟨_,_,_,p⟩:=x;exact p.lt
 |dK kvs=>obtain ⟨_,_,_,_,o,_,_,e,_⟩:=x;exact zVB e
 |dT kvs=>obtain ⟨_,_,_,_,o,_,_,e,_⟩:=x;exact zVB e
 |set S n=>obtain ⟨o,_,_,_,e,_⟩:=x;exact zVB e
 |ins C dx fs=>obtain ⟨_,_,_,e,_⟩:=x;exact zVB e
 |own y=>obtain ⟨_,e⟩:=x;exact zVB e
 |xd fs=>obtain ⟨_,⟨_,_,_,e,_⟩,_⟩:=x;exact zVB e
 |rng lo hi=>obtain ⟨_,_,_,e⟩:=x;exact zVB e
 |frz ob u=>obtain ⟨e,_⟩:=x;exact zVB e
 |tbl ps=>exact zVB (show h.get? a=some _ from x)
 |met f y=>exact zVB (show h.get? a=some _ from x)
 |ext φ=>obtain ⟨_,⟨_,e⟩,_⟩:=x;exact zVB e
theorem Paired.mapP {α β:Type} {F G:α->β->Prop}:∀ {l₁:List α} {l₂:List β},Paired F l₁ l₂->(∀ a b,F a b->G a b)->Paired G l₁ l₂
 |_,_,.nil,_=>.nil
 |_,_,.cons r t,f=>.cons (f _ _ r) (Paired.mapP t f)
theorem qo.stay (x:qo P w H h a o) (k:∀ b u,(b=a\/H b=some (.own a))->h.get? b=some u->h'.get? b=some u)
  (ho:∀ b,H b=some (.own a)->H' b=some (.own a)) (ht:∀ b xs,H b=some (.tup xs)->H' b=some (.tup xs)):qo P w H' h' a o:=by
 induction o with
 |lst xs=>obtain ⟨z,its,n,r,e⟩:=x;exact ⟨z,its,n,r,k _ _ (.inl rfl) e⟩
 |tup xs=>obtain ⟨z,its,r,ob,e,c⟩:=x;exact ⟨z,its,r,ob,k _ _ (.inl rfl) e,c⟩
 |dK kvs=>obtain ⟨z,y,vs,r,ob,es,ep,e,c⟩:=x;exact ⟨z,y,vs,r,ob,es,ep,k _ _ (.inl rfl) e,c⟩
 |dT kvs=>
  obtain ⟨z,y,xs,r,ob,es,ep,e,c⟩:=x
  exact ⟨z,y,xs,Paired.mapP r λp q z=>⟨z.1,ht _ _ z.2.1,z.2.2⟩,ob,es,ep,k _ _ (.inl rfl) e,c⟩
 |set S n=>obtain ⟨ob,es,ep,t,e,c⟩:=x;exact ⟨ob,es,ep,t,k _ _ (.inl rfl) e,c⟩
 |ins C dx fs=>
  obtain ⟨d,z,ne,e,mA,⟨od,es,ep,e2,c⟩,r⟩:=x
  exact ⟨ho _ d,z,ne,k _ _ (.inl rfl) e,mA,⟨od,es,ep,k _ _ (.inr d) e2,c⟩,r⟩
 |own y=>obtain ⟨ob,e⟩:=x;exact ⟨ob,k _ _ (.inl rfl) e⟩
 |xd fs=>obtain ⟨mA,⟨od,es,ep,e,c⟩,r⟩:=x;exact ⟨mA,⟨od,es,ep,k _ _ (.inl rfl) e,c⟩,r⟩
 |rng lo hi=>obtain ⟨t,u,v,e⟩:=x;exact ⟨t,u,v,k _ _ (.inl rfl) e⟩
 |frz ob u ih=>obtain ⟨e,q⟩:=x;exact ⟨k _ _ (.inl rfl) e,ih q⟩
 |tbl ps=>
  have e:h.get? a=some { cls:=.none,data:=.fields ps }:=x
  show h'.get? a=some { cls:=.none,data:=.fields ps }
  exact k a _ (.inl rfl) e
 |met f y=>
  have e:h.get? a=some (PySem.W.methodObj (.ref f) (.ref y)):=x
  show h'.get? a=some (PySem.W.methodObj (.ref f) (.ref y))
  exact k a _ (.inl rfl) e
 |ext φ=>obtain ⟨p,⟨o,e⟩,st⟩:=x;exact ⟨st _ _ p λo q=>k _ _ (.inl rfl) q,⟨o,k _ _ (.inl rfl) e⟩,st⟩
theorem HOk.lt (x:HOk P w H h) (e:H a=some o):a<h.objs.size:=(x a o e).lt
theorem HOk.fresh (x:HOk P w H h) (e:h.objs.size<=a):H a=none:=by
 cases q:H a with
 |none=>rfl
 |some u=>exact absurd (zU8 (x.lt q) e) (zWE _)
theorem HOk.kept (x:HOk P w H h) (k:∀ b u,h.get? b=some u->h'.get? b=some u):HOk P w H h':=λa o e=>
 (x a o e).stay (λb u _ q=>k b u q) (λ_ q=>q) λ_ _ q=>q
theorem HOk.laid (x:HOk P w H h) (k:∀ b u,h.get? b=some u->h'.get? b=some u) (hp:h.objs.size<=a) (new:qo P w (upd H a o) h' a o):HOk P w (upd H a o) h':=λb u e=>by
 have hn:=x.fresh hp
 by_cases hb:b=a
 ·subst hb;rw [zN] at e;cases e;exact new
 ·rw [zJ hb] at e
  exact (x b u e).stay (λc v _ q=>k c v q) (λc q=>by rw [zJ (yl q hn)];exact q) λc xs q=>by rw [zJ (yl q hn)];exact q
end
def Rd (H:Hp) (a:Addr) (u:HO):Prop:=H a=some u\/∃ o,H a=some (.frz o u)
theorem Rd.ok {P:Program} {w:World} {H:Hp} {h:Heap} {a:Addr} {u:HO} (r:Rd H a u) (x:HOk P w H h):qo P w H h a u:=by
 rcases r with r|⟨o,r⟩
 ·exact x a u r
 ·obtain ⟨_,q⟩:=x a _ r
  exact q
def Mut:Option HO->Prop
 |some (.lst _)=>True
 |some (.dK _)=>True
 |some (.dT _)=>True
 |some (.set _ _)=>True
 |some (.ins _ _ _)=>True
 |some (.ext _)=>True
 |_=>False
section
variable {P:Program} {w:World} {H:Hp} {h h':Heap} {x e:Addr} {o':HO}
theorem HOk.write (ok:HOk P w H h) (mu:Mut (H x)) (he:e=x\/H e=some (.own x)) (k:∀ b u,b≠e->h.get? b=some u->h'.get? b=some u) (heo:∃ u,h'.get? e=some u)
  (new:qo P w (upd H x o') h' x o'):HOk P w (upd H x o') h':=λb u q=>by
 have nown:∀ c y,H c=some (.own y)->c≠x:=λc y r z=>by subst z;rw [r] at mu;exact mu
 have ntup:∀ c xs,H c=some (.tup xs)->c≠x:=λc xs r z=>by subst z;rw [r] at mu;exact mu
 by_cases hb:b=x
 ·subst hb;rw [zN] at q;cases q;exact new
 ·rw [zJ hb] at q
  by_cases hbe:b=e
  ·have q':H b=some (.own x):=by
    rcases he with z|z
    ·exact absurd (hbe.trans z) hb
    ·rw [hbe];exact z
   rw [q] at q';cases q'
   obtain ⟨v,hv⟩:=heo
   exact ⟨v,by rw [hbe];exact hv⟩
  ·refine (ok b u q).stay (λc v hc r=>k c v ?_ r) (λc r=>by rw [zJ (nown c b r)];exact r) λc xs r=>by rw [zJ (ntup c xs r)];exact r
   rcases hc with rfl|hc
   ·exact hbe
   ·rintro rfl
    rcases he with z|z
    ·exact nown c b hc z
    ·rw [hc] at z;cases z;exact hb rfl
end
structure Un (fs ex:List Addr) (H H':Hp) (h h':Heap):Prop where
 keep:∀ b o,h.get? b=some o->H b=none->b∉fs->b∉ex->h'.get? b=some o
 slot:∀ b o,h.get? b=some o->H b=none->b∈fs->b∉ex->∃ sl,h'.get? b=some { o with slots:=sl }
 free:∀ b o,h.get? b=some o->H b=none->b∉ex->H' b=none
 there:∀ b o,h.get? b=some o->b∉ex->∃ o',h'.get? b=some o'
 tups:∀ b xs,H b=some (.tup xs)->H' b=some (.tup xs)
 frzs:∀ b o u,H b=some (.frz o u)->H' b=some (.frz o u)
 tbls:∀ b ps,H b=some (.tbl ps)->∃ more,H' b=some (.tbl (ps++more))
section
variable {fs fs' ex ex':List Addr} {H H1 H2:Hp} {h h1 h2 h':Heap} {a x e:Addr} {o:HO}
theorem Un.any (u:Un fs ex H H1 h h1) {b:Addr} {ob:Obj} (q:h.get? b=some ob) (n:H b=none) (hx:b∉ex):∃ sl,h1.get? b=some { ob with slots:=sl }:=by
 by_cases hb:b∈fs
 ·exact u.slot b ob q n hb hx
 ·exact ⟨ob.slots,u.keep b ob q n hb hx⟩
theorem Un.kept (k:∀ b u,h.get? b=some u->h'.get? b=some u):Un fs ex H H h h':=
 ⟨λb ob q _ _ _=>k b ob q,λb ob q _ _ _=>⟨ob.slots,k b ob q⟩,λ_ _ _ n _=>n,λb ob q _=>⟨ob,k b ob q⟩,λ_ _ q=>q,λ_ _ _ q=>q,λ_ ps q=>⟨#[],by rw [q];simp⟩⟩
theorem Un.refl:Un fs ex H H h h:=Un.kept λ_ _ q=>q
theorem Un.laid (k:∀ b u,h.get? b=some u->h'.get? b=some u) (hp:h.objs.size<=a) (hn:H a=none):Un fs ex H (upd H a o) h h' where
 keep:=λb u q _ _ _=>k b u q
 slot:=λb u q _ _ _=>⟨u.slots,k b u q⟩
 free:=λb u q n _=>by rw [zJ (zVN (zU8 (zVB q) hp))];exact n
 there:=λb u q _=>⟨u,k b u q⟩
 tups:=λb xs q=>by rw [zJ (yl q hn)];exact q
 frzs:=λb u xs q=>by rw [zJ (yl q hn)];exact q
 tbls:=λb ps q=>⟨#[],by rw [zJ (yl q hn),q];simp⟩
theorem Un.write (mu:Mut (H x)) (he:e=x\/H e=some (.own x)) (k:∀ b u,b≠e->h.get? b=some u->h'.get? b=some u) (heo:∃ u,h'.get? e=some u):Un fs ex H (upd H x o) h h':=by
 have hx:∀ b,H b=none->b≠x:=λb n z=>by subst z;rw [n] at mu;exact mu
 have hb:∀ b,H b=none->b≠e:=λb n z=>by
  subst z
  rcases he with r|r
  ·exact hx b n r
  ·rw [n] at r;cases r
 have hm:∀ b u,H b=some u->¬ Mut (some u)->b≠x:=λb u q nm z=>by subst z;rw [q] at mu;exact nm mu
 refine ⟨λb u q n _ _=>k b u (hb b n) q,λb u q n _ _=>⟨u.slots,k b u (hb b n) q⟩,λb u q n _=>by rw [zJ (hx b n)];exact n,λb u q _=>?_,
  λb xs q=>by rw [zJ (hm b _ q λz=>z)];exact q,λb u xs q=>by rw [zJ (hm b _ q λz=>z)];exact q,λb ps q=>⟨#[],by rw [zJ (hm b _ q λz=>z),q];simp⟩⟩
 by_cases hbe:b=e
 ·subst hbe;exact heo
 ·exact ⟨u,k b u hbe q⟩
end
def trk (h:Heap) (H:Hp):List Addr:=(List.range h.objs.size).filter λa=>(H a).isSome
def zNw (h:Heap) (H:Hp):Heap:=PySem.W.hideAll h (trk h H)
theorem zLQ (h:Heap) (H:Hp):(zNw h H).objs.size=h.objs.size:=PySem.W.hideAll_size _ _
theorem zNx {h:Heap} {H:Hp} {b:Addr} {o:Obj} (e:h.get? b=some o) (n:H b=none):(zNw h H).get? b=some o:=
 zWM _ e λhm=>by
  have q:(H b).isSome=true:=(zV3.mp hm).2
  rw [n] at q;simp at q
theorem zQg {h:Heap} {H:Hp} {b:Addr} {o:Obj} (e:(zNw h H).get? b=some o):h.get? b=some o/\H b=none:=by
 have e':h.get? b=some o:=zWz (trk h H) e
 refine ⟨e',?_⟩
 cases q:H b with
 |none=>rfl
 |some x=>
  have hm:b∈trk h H:=zV3.mpr ⟨zWD.mpr (zVB e'),by simp [q]⟩
  have z:(zNw h H).get? b=none:=zWI (trk h H) hm
  rw [z] at e;cases e
def zQh (g h:Heap) (L:Addr):PNt:=(List.range h.objs.size).filterMap λa=>if a=L\/(g.get? a).isSome=true then none else (h.get? a).map λo=>(a,o)
def rest (g h:Heap) (L d:Addr):PNt:=(zQh g h L).filter λp=>decide (p.1≠d)
end L2
namespace L2
open PySem PySem.Spec PyProof.Rows
structure Mod (K:Fg) (mg:MGt) (base:Heap):Prop where
 kin:K.In base
 glob:base.Ns mainGlobals mg
 blt:∃ mb,base.Ns builtinsNs mb/\∀ x:Str,x ≠ "__name__"->mb x=bootBuiltins x
 nolimit:base.NoLimit
structure Cx where
 prog:Program
 w:World
 K:Fg
 mg:MGt
 base:Heap
 A:Around
 N:List Str
 s₀:Shared
 H₀:Hp
 env:Env
 outer:List Env
 stack:List Env
 ex:List Addr
 fn:Str->Bool
 calm:Bool
 pn:PNt
 xe:VSt
def frs (l:List Env):List Addr:=l.filterMap (·.frame)
abbrev Cx.fs (X:Cx):List Addr:=frs X.outer
def Vis (sc:Scope) (x:Str):Prop:=sc.names.lookup x=some .local\/sc.names.lookup x=some .cell\/sc.names.lookup x=some .free
def Loc (sc:Scope) (x:Str):Prop:=sc.names.lookup x=some .local\/sc.names.lookup x=some .cell
def Look (env:Env) (h:Heap) (m:MGt) (x:Str) (u:Value):Prop:=
 (env.kindOf x=some .local/\m x=some u)\/((env.kindOf x=some .cell\/env.kindOf x=some .free)/\∃ c,env.cells.lookup x=some c/\h.IsCell c (some u))
structure Cx.Ok (X:Cx):Prop where
 mod:Mod X.K X.mg X.base
 kind:X.env.scope.kind = .function
 glob:X.env.globals=mainGlobals
 blt:X.env.builtins=builtinsNs
 above:X.s₀.heap.objs.size<=X.env.locals
 inj:∀ x y c,X.env.cells.lookup x=some c->X.env.cells.lookup y=some c->x=y
 has:∀ x,(X.env.kindOf x=some .cell\/X.env.kindOf x=some .free)->∃ c,X.env.cells.lookup x=some c
 cab:∀ x c,X.fn x=true->X.env.cells.lookup x=some c->X.s₀.heap.objs.size<=c
 hd:X.calm=true->X.A.handled=none
 frames:X.A.frames=some X.stack
 stk:X.stack=X.outer\/(X.stack=X.env::X.outer/\X.env.frame=some X.env.locals)
 exf:∀ b∈X.ex,b≠X.env.locals/\∀ x c,X.env.cells.lookup x=some c->c≠b
 bs:∀ b o,X.base.get? b=some o->X.s₀.heap.get? b=some o/\X.H₀ b=none
 bsz:X.base.objs.size<=X.s₀.heap.objs.size
 noex:∀ b o,X.base.get? b=some o->b∉X.ex
 exfs:∀ b∈X.ex,b∉X.fs
 funs:X.s₀.heap.FunFrames X.base X.outer
 frf:∀ b∈X.fs,X.H₀ b=none
structure Inv (X:Cx) (pins:PNt) (σ:List (Option V)) (H:Hp) (s:Shared):Prop where
 ok:X.Ok
 os:s.os=X.s₀.os
 bare:AllBare s.gens
 base:Un X.fs X.ex X.H₀ H X.s₀.heap s.heap
 loc:∃ m,s.heap.Ns X.env.locals m/\∀ (i:Nat) (x:Str) (v:V),X.N[i]?=some x->σ[i]?=some (some v)->Vis X.env.scope x->∃ u,yn v u/\Look X.env s.heap m x u
 cell:∀ x c,X.env.cells.lookup x=some c->∃ v,s.heap.IsCell c v
 free:H X.env.locals=none
 freeC:∀ x c,X.env.cells.lookup x=some c->H c=none
 pin:∀ p∈X.pn++pins,s.heap.get? p.1=some p.2/\H p.1=none/\p.1≠X.env.locals/\p.1∉X.fs/\∀ v,p.2.data≠.cell v
 hok:HOk X.prog X.w H s.heap
 len:σ.length=X.N.length
section
variable {X:Cx} {pins:PNt} {σ:List (Option V)} {H H':Hp} {s:Shared} {h':Heap}
theorem Cx.Ok.nofr (ok:X.Ok) {b:Addr} {o:Obj} (e:X.base.get? b=some o):b∉X.fs:=λhb=>by
 have:=(ok.funs.mem hb).1
 rw [e] at this;cases this
theorem Inv.bs (I:Inv X pins σ H s):∀ b o,X.base.get? b=some o->s.heap.get? b=some o/\H b=none:=λb o e=>
 ⟨I.base.keep b o (I.ok.bs b o e).1 (I.ok.bs b o e).2 (I.ok.nofr e) (I.ok.noex b o e),I.base.free b o (I.ok.bs b o e).1 (I.ok.bs b o e).2 (I.ok.noex b o e)⟩
theorem Inv.bk (I:Inv X pins σ H s):∀ b o,X.base.get? b=some o->s.heap.get? b=some o:=λb o e=>(I.bs b o e).1
theorem Inv.mod (I:Inv X pins σ H s):Mod X.K X.mg X.base:=I.ok.mod
theorem Inv.kIn (I:Inv X pins σ H s):X.K.In s.heap:=I.ok.mod.kin.keeps I.bk
theorem Inv.lt (I:Inv X pins σ H s):X.env.locals<s.heap.objs.size:=let ⟨_,hn,_⟩:=I.loc;hn.lt
theorem Inv.sz (I:Inv X pins σ H s):X.s₀.heap.objs.size<=s.heap.objs.size:=zVb I.ok.above (Nat.le_of_lt I.lt)
theorem Inv.nofs (I:Inv X pins σ H s) {a:Addr} (h:s.heap.objs.size<=a):a∉X.fs:=λhb=>by
 obtain ⟨_,o,ho,_⟩:=I.ok.funs.mem hb
 exact absurd (zU8 (zVB ho) (zVb I.sz h)) (zWE _)
theorem Inv.cne (I:Inv X pins σ H s):∀ x c,X.env.cells.lookup x=some c->c≠X.env.locals:=λx c e z=>by
 obtain ⟨v,o,ho,hd⟩:=I.cell x c e
 obtain ⟨m,⟨o',es,ep,ho',hd',_⟩,_⟩:=I.loc
 rw [z,ho'] at ho;cases ho;rw [hd'] at hd;cases hd
theorem Inv.funs (I:Inv X pins σ H s):s.heap.FunFrames X.base X.outer:=by
 have all:∀ (l:List Env),(∀ b∈frs l,b∈X.fs)->X.s₀.heap.FunFrames X.base l->s.heap.FunFrames X.base l:=by
  intro l
  induction l with
  |nil=>intro _ _;trivial
  |cons env r ih=>
   intro hs hl
   obtain ⟨hk,⟨L,o,hf,hn,ho,hd⟩,hr⟩:=hl
   have hL:L∈X.fs:=hs L (by unfold frs;rw [zWB,hf];exact zU0)
   obtain ⟨sl,e⟩:=I.base.slot L o ho (I.ok.frf L hL) hL λz=>I.ok.exfs L z hL
   exact ⟨hk,⟨L,_,hf,hn,e,hd⟩,ih (λb hb=>hs b (by unfold frs;rw [zWB,hf];exact zUu _ hb)) hr⟩
 exact all X.outer (λ_ hb=>hb) I.ok.funs
theorem Inv.stack (I:Inv X pins σ H s):s.heap.FunFrames X.base X.stack:=by
 rcases I.ok.stk with e|⟨e,hf⟩
 ·rw [e];exact I.funs
 ·rw [e]
  obtain ⟨m,hn,_⟩:=I.loc
  refine .cons (by rw [I.ok.kind];decide) hf hn ?_ I.funs
  exact Heap.get?_none_of_le (zVb I.ok.bsz I.ok.above)
theorem Inv.stkSub (I:Inv X pins σ H s):∀ b∈frs X.stack,b∈X.env.locals::X.fs:=λb hb=>by
 rcases I.ok.stk with e|⟨e,hf⟩
 ·rw [e] at hb;exact zUu _ hb
 ·rw [e] at hb
  unfold frs at hb
  rw [zWB,hf] at hb
  exact hb
theorem Inv.stkFree (I:Inv X pins σ H s):∀ b∈frs X.stack,H b=none:=λb hb=>by
 rcases zU1.mp (I.stkSub b hb) with e|hb
 ·rw [e];exact I.free
 ·obtain ⟨_,o,ho,_⟩:=I.ok.funs.mem hb
  exact I.base.free b o ho (I.ok.frf b hb) λz=>I.ok.exfs b z hb
theorem Inv.step {g':Array GenState} {t':Nat} {d':Drawn} {ch:List Addr} (I:Inv X pins σ H s)
  (hch:∀ b∈ch,(b∈X.ex\/X.s₀.heap.objs.size<=b)/\b≠X.env.locals/\(∀ x c,X.env.cells.lookup x=some c->c≠b)/\∀ p∈X.pn++pins,p.1≠b)
  (keep:∀ b o,b≠X.env.locals->b∉X.fs->b∉ch->s.heap.get? b=some o->H b=none->h'.get? b=some o)
  (slot:∀ b o,b≠X.env.locals->b∈X.fs->b∉ch->s.heap.get? b=some o->H b=none->∃ sl,h'.get? b=some { o with slots:=sl }) (free:∀ b o,b∉ch->s.heap.get? b=some o->H b=none->H' b=none)
  (there:∀ b o,b∉ch->s.heap.get? b=some o->∃ o',h'.get? b=some o')
  (tups:∀ b xs,H b=some (.tup xs)->H' b=some (.tup xs)) (frzs:∀ b o u,H b=some (.frz o u)->H' b=some (.frz o u)) (tbls:∀ b ps,H b=some (.tbl ps)->∃ more,H' b=some (.tbl (ps++more)))
  (ns:∀ m,s.heap.Ns X.env.locals m->h'.Ns X.env.locals m) (hok:HOk X.prog X.w H' h') (hg:AllBare g') :
  Inv X pins σ H' { s with heap:=h',gens:=g',drawn:=d',toks:=t' }:=by
 have neL:∀ b o,X.s₀.heap.get? b=some o->b≠X.env.locals:=λb o e=>zVN (zU8 (zVB e) I.ok.above)
 have neC:∀ b o,X.s₀.heap.get? b=some o->b∉X.ex->b∉ch:=λb o e hx hb=>by
  rcases (hch b hb).1 with z|z
  ·exact hx z
  ·exact absurd (zU8 (zVB e) z) (zWE _)
 have cellK:∀ x c,X.env.cells.lookup x=some c->∀ v,s.heap.IsCell c v->h'.IsCell c v:=λx c e v=>by
  rintro ⟨o,ho,hd⟩
  have nch:c∉ch:=λz=>(hch c z).2.2.1 x c e rfl
  by_cases hc:c∈X.fs
  ·obtain ⟨sl,q⟩:=slot c o (I.cne x c e) hc nch ho (I.freeC x c e)
   exact ⟨_,q,hd⟩
  ·exact ⟨o,keep c o (I.cne x c e) hc nch ho (I.freeC x c e),hd⟩
 refine ⟨I.ok,I.os,hg,⟨λb o e n hb hx=>?_,λb o e n hb hx=>?_,λb o e n hx=>?_,λb o e hx=>?_,λb xs e=>tups b xs (I.base.tups b xs e),λb o xs e=>frzs b o xs (I.base.frzs b o xs e),λb ps e=>?_⟩,?_,λx c e=>?_,?_,λx c e=>?_,λp hp=>?_,hok,I.len⟩
 ·exact keep b o (neL b o e) hb (neC b o e hx) (I.base.keep b o e n hb hx) (I.base.free b o e n hx)
 ·obtain ⟨sl,e1⟩:=I.base.slot b o e n hb hx
  obtain ⟨sl',e2⟩:=slot b _ (neL b o e) hb (neC b o e hx) e1 (I.base.free b o e n hx)
  exact ⟨sl',e2⟩
 ·obtain ⟨o',e1⟩:=I.base.there b o e hx
  exact free b o' (neC b o e hx) e1 (I.base.free b o e n hx)
 ·obtain ⟨o',e1⟩:=I.base.there b o e hx
  exact there b o' (neC b o e hx) e1
 ·obtain ⟨m1,e1⟩:=I.base.tbls b ps e
  obtain ⟨m2,e2⟩:=tbls b _ e1
  exact ⟨m1++m2,by rw [e2,Array.append_assoc]⟩
 ·obtain ⟨m,hn,hl⟩:=I.loc
  refine ⟨m,ns m hn,λi x v e1 e2 e3=>?_⟩
  obtain ⟨u,r,l⟩:=hl i x v e1 e2 e3
  refine ⟨u,r,?_⟩
  rcases l with l|⟨k,c,e,z⟩
  ·exact .inl l
  ·exact .inr ⟨k,c,e,cellK x c e _ z⟩
 ·obtain ⟨v,z⟩:=I.cell x c e
  exact ⟨v,cellK x c e v z⟩
 ·obtain ⟨m,⟨o,_,_,ho,_⟩,_⟩:=I.loc
  exact free _ o (λz=>(hch _ z).2.1 rfl) ho I.free
 ·obtain ⟨v,o,ho,hd⟩:=I.cell x c e
  exact free c o (λz=>(hch c z).2.2.1 x c e rfl) ho (I.freeC x c e)
 ·obtain ⟨e,n,ne,nf,d⟩:=I.pin p hp
  have nch:p.1∉ch:=λz=>(hch p.1 z).2.2.2 p hp rfl
  exact ⟨keep p.1 p.2 ne nf nch e n,free p.1 p.2 nch e n,ne,nf,d⟩
theorem Inv.stepN {g':Array GenState} {t':Nat} {d':Drawn} {ch:List Addr} (I:Inv X pins σ H s)
  (hch:∀ b∈ch,(b∈X.ex\/X.s₀.heap.get? b=none)/\b≠X.env.locals/\(∀ x c,X.env.cells.lookup x=some c->c≠b)/\∀ p∈X.pn++pins,p.1≠b)
  (keep:∀ b o,b≠X.env.locals->b∉X.fs->b∉ch->s.heap.get? b=some o->H b=none->h'.get? b=some o)
  (slot:∀ b o,b≠X.env.locals->b∈X.fs->b∉ch->s.heap.get? b=some o->H b=none->∃ sl,h'.get? b=some { o with slots:=sl }) (free:∀ b o,b∉ch->s.heap.get? b=some o->H b=none->H' b=none)
  (there:∀ b o,b∉ch->s.heap.get? b=some o->∃ o',h'.get? b=some o')
  (tups:∀ b xs,H b=some (.tup xs)->H' b=some (.tup xs)) (frzs:∀ b o u,H b=some (.frz o u)->H' b=some (.frz o u)) (tbls:∀ b ps,H b=some (.tbl ps)->∃ more,H' b=some (.tbl (ps++more)))
  (ns:∀ m,s.heap.Ns X.env.locals m->h'.Ns X.env.locals m) (hok:HOk X.prog X.w H' h') (hg:AllBare g') :
  Inv X pins σ H' { s with heap:=h',gens:=g',drawn:=d',toks:=t' }:=by
 have neL:∀ b o,X.s₀.heap.get? b=some o->b≠X.env.locals:=λb o e=>zVN (zU8 (zVB e) I.ok.above)
 have neC:∀ b o,X.s₀.heap.get? b=some o->b∉X.ex->b∉ch:=λb o e hx hb=>by
  rcases (hch b hb).1 with z|z
  ·exact hx z
  ·rw [z] at e;cases e
 have cellK:∀ x c,X.env.cells.lookup x=some c->∀ v,s.heap.IsCell c v->h'.IsCell c v:=λx c e v=>by
  rintro ⟨o,ho,hd⟩
  have nch:c∉ch:=λz=>(hch c z).2.2.1 x c e rfl
  by_cases hc:c∈X.fs
  ·obtain ⟨sl,q⟩:=slot c o (I.cne x c e) hc nch ho (I.freeC x c e)
   exact ⟨_,q,hd⟩
  ·exact ⟨o,keep c o (I.cne x c e) hc nch ho (I.freeC x c e),hd⟩
 refine ⟨I.ok,I.os,hg,⟨λb o e n hb hx=>?_,λb o e n hb hx=>?_,λb o e n hx=>?_,λb o e hx=>?_,λb xs e=>tups b xs (I.base.tups b xs e),λb o xs e=>frzs b o xs (I.base.frzs b o xs e),λb ps e=>?_⟩,?_,λx c e=>?_,?_,λx c e=>?_,λp hp=>?_,hok,I.len⟩
 ·exact keep b o (neL b o e) hb (neC b o e hx) (I.base.keep b o e n hb hx) (I.base.free b o e n hx)
 ·obtain ⟨sl,e1⟩:=I.base.slot b o e n hb hx
  obtain ⟨sl',e2⟩:=slot b _ (neL b o e) hb (neC b o e hx) e1 (I.base.free b o e n hx)
  exact ⟨sl',e2⟩
 ·obtain ⟨o',e1⟩:=I.base.there b o e hx
  exact free b o' (neC b o e hx) e1 (I.base.free b o e n hx)
 ·obtain ⟨o',e1⟩:=I.base.there b o e hx
  exact there b o' (neC b o e hx) e1
 ·obtain ⟨m1,e1⟩:=I.base.tbls b ps e
  obtain ⟨m2,e2⟩:=tbls b _ e1
  exact ⟨m1++m2,by rw [e2,Array.append_assoc]⟩
 ·obtain ⟨m,hn,hl⟩:=I.loc
  refine ⟨m,ns m hn,λi x v e1 e2 e3=>?_⟩
  obtain ⟨u,r,l⟩:=hl i x v e1 e2 e3
  refine ⟨u,r,?_⟩
  rcases l with l|⟨k,c,e,z⟩
  ·exact .inl l
  ·exact .inr ⟨k,c,e,cellK x c e _ z⟩
 ·obtain ⟨v,z⟩:=I.cell x c e
  exact ⟨v,cellK x c e v z⟩
 ·obtain ⟨m,⟨o,_,_,ho,_⟩,_⟩:=I.loc
  exact free _ o (λz=>(hch _ z).2.1 rfl) ho I.free
 ·obtain ⟨v,o,ho,hd⟩:=I.cell x c e
  exact free c o (λz=>(hch c z).2.2.1 x c e rfl) ho (I.freeC x c e)
 ·obtain ⟨e,n,ne,nf,d⟩:=I.pin p hp
  have nch:p.1∉ch:=λz=>(hch p.1 z).2.2.2 p hp rfl
  exact ⟨keep p.1 p.2 ne nf nch e n,free p.1 p.2 nch e n,ne,nf,d⟩
theorem Inv.un {t':Nat} (I:Inv X pins σ H s) (u:Un X.fs [] H H' s.heap h') (hok:HOk X.prog X.w H' h'):Inv X pins σ H' { s with heap:=h',toks:=t' }:=by
 obtain ⟨m,⟨o,es,ep,ho,r⟩,_⟩:=id I.loc
 obtain ⟨sl,hL⟩:=u.any ho I.free (by simp)
 exact I.step (g':=s.gens) (d':=s.drawn) (ch:=[]) (λ_ z=>nomatch z) (λb o _ hb _ e n=>u.keep b o e n hb (by simp)) (λb o _ hb _ e n=>u.slot b o e n hb (by simp)) (λb o _ e n=>u.free b o e n (by simp)) (λb o _ e=>u.there b o e (by simp)) u.tups u.frzs u.tbls (λm' hm=>by
  obtain ⟨o',es',ep',ho',r'⟩:=hm
  rw [ho] at ho';cases ho'
  exact ⟨_,es',ep',hL,r'⟩) hok I.bare
theorem Inv.call {g':Array GenState} {t':Nat} {d':Drawn} {ch:List Addr} (I:Inv X pins σ H s) (u:Un (frs X.stack) ch H H' s.heap h') (hok:HOk X.prog X.w H' h') (hg:AllBare g')
  (hch:∀ b∈ch,(b∈X.ex\/X.s₀.heap.objs.size<=b)/\b≠X.env.locals/\(∀ x c,X.env.cells.lookup x=some c->c≠b)/\∀ p∈X.pn++pins,p.1≠b) :
  Inv X pins σ H' { s with heap:=h',gens:=g',drawn:=d',toks:=t' }:=by
 obtain ⟨m,⟨o,es,ep,ho,r⟩,_⟩:=id I.loc
 obtain ⟨sl,hL⟩:=u.any ho I.free λz=>(hch _ z).2.1 rfl
 exact I.step (ch:=ch) hch (λb o hL hb hc e n=>u.keep b o e n (λz=>(zU1.mp (I.stkSub b z)).elim hL hb) hc) (λb o _ _ hc e n=>u.any e n hc) (λb o hc e n=>u.free b o e n hc) (λb o hc e=>u.there b o e hc) u.tups u.frzs u.tbls (λm' hm=>by
  obtain ⟨o',es',ep',ho',r'⟩:=hm
  rw [ho] at ho';cases ho'
  exact ⟨_,es',ep',hL,r'⟩) hok hg
theorem Inv.turned {t':Nat} {it:Addr} (I:Inv X pins σ H s) (k:∀ b o,b≠it->s.heap.get? b=some o->h'.get? b=some o) (hn:H it=none) (hL:it≠X.env.locals)
  (h1:it∈X.ex\/X.s₀.heap.objs.size<=it) (h2:∀ x c,X.env.cells.lookup x=some c->c≠it) (h3:∀ p∈X.pn++pins,p.1≠it):Inv X pins σ H { s with heap:=h',toks:=t' }:=by
 have nit:∀ b u,H b=some u->b≠it:=λb u e z=>by rw [z,hn] at e;cases e
 refine I.step (g':=s.gens) (d':=s.drawn) (ch:=[it]) (λb hb=>?_) (λb o _ _ hc e _=>k b o (λz=>hc (by simp [z])) e) (λb o _ _ hc e _=>⟨o.slots,k b o (λz=>hc (by simp [z])) e⟩) (λ_ _ _ _ n=>n)
  (λb o hc e=>⟨o,k b o (λz=>hc (by simp [z])) e⟩) (λ_ _ e=>e) (λ_ _ _ e=>e) (λb ps e=>⟨#[],by rw [e];simp⟩) (λm hm=>?_) (λb u e=>?_) I.bare
 ·have e:b=it:=by simpa using hb
  subst e
  exact ⟨h1,hL,h2,h3⟩
 ·obtain ⟨o,es,ep,ho,r⟩:=hm
  exact ⟨o,es,ep,k _ o (Ne.symm hL) ho,r⟩
 ·refine (I.hok b u e).stay (λc v hc q=>k c v ?_ q) (λ_ q=>q) λ_ _ q=>q
  rcases hc with z|z
  ·rw [z];exact nit b u e
  ·exact nit c _ z
theorem Inv.tok (I:Inv X pins σ H s) (t:Nat):Inv X pins σ H { s with toks:=t }:=I.un (h':=s.heap) (t':=t) Un.refl I.hok
theorem Inv.kept {t':Nat} (I:Inv X pins σ H s) (k:∀ b u,s.heap.get? b=some u->h'.get? b=some u):Inv X pins σ H { s with heap:=h',toks:=t' }:=I.un (Un.kept k) (I.hok.kept k)
theorem Inv.laid {a:Addr} {o:HO} {t':Nat} (I:Inv X pins σ H s) (k:∀ b u,s.heap.get? b=some u->h'.get? b=some u) (hp:s.heap.objs.size<=a) (new:qo X.prog X.w (upd H a o) h' a o) :
  Inv X pins σ (upd H a o) { s with heap:=h',toks:=t' }:=I.un (Un.laid k hp (I.hok.fresh hp)) (I.hok.laid k hp new)
theorem Inv.write {x e:Addr} {o:HO} {t':Nat} (I:Inv X pins σ H s) (mu:Mut (H x)) (he:e=x\/H e=some (.own x)) (k:∀ b u,b≠e->s.heap.get? b=some u->h'.get? b=some u) (heo:∃ u,h'.get? e=some u)
  (new:qo X.prog X.w (upd H x o) h' x o):Inv X pins σ (upd H x o) { s with heap:=h',toks:=t' }:=I.un (Un.write mu he k heo) (I.hok.write mu he k heo new)
theorem Inv.pins_of {pins':PNt} (I:Inv X pins σ H s) (h:∀ p∈pins',s.heap.get? p.1=some p.2/\H p.1=none/\p.1≠X.env.locals/\p.1∉X.fs/\∀ v,p.2.data≠.cell v):Inv X pins' σ H s:=
 ⟨I.ok,I.os,I.bare,I.base,I.loc,I.cell,I.free,I.freeC,λp hp=>(zU2.mp hp).elim (λz=>I.pin p (zVi _ z)) (h p),I.hok,I.len⟩
theorem zJU {N:List Str} (hN:N.Nodup) {i j:Nat} {x:Str} (a:N[i]?=some x) (b:N[j]?=some x):i=j:=by
 obtain ⟨h1,e1⟩:=zU7.mp a
 obtain ⟨h2,e2⟩:=zU7.mp b
 exact (List.getElem_inj hN).mp (e1.trans e2.symm)
theorem zHI {M:Model} {A:Around} {E:VSt} {i:Nat} {x:Str} {v:V} {u:Value} {Q:Unit->Shared->Prop} (I:Inv X pins σ H s) (hN:X.N.Nodup) (hi:X.N[i]?=some x) (hx:Loc X.env.scope x) (r:yn v u)
  (h:∀ s',Inv X pins (σ.set i (some v)) H s'->(∃ a,Heap.SameBut a s.heap s'.heap/\(a=X.env.locals\/X.env.cells.lookup x=some a))->Q () s') (hf:X.fn x=true\/X.env.scope.names.lookup x=some .local:=by first|exact .inl rfl|exact .inr rfl|assumption):wpAny M A (storeName X.env x u) Q E s:=by
 obtain ⟨m,hn,hl⟩:=id I.loc
 have hcls:(X.env.scope.kind == .class || (X.env.scope.kind == .module && X.env.locals != X.env.globals))=false:=by rw [I.ok.kind];rfl
 have hiσ:i<σ.length:=by rw [I.len];exact (zU7.mp hi).1
 have cne:=I.cne
 have tracked:∀ {a:Addr} {h':Heap},(∃ o,s.heap.get? a=some o/\H a=none)->Heap.SameBut a s.heap h'->HOk X.prog X.w H h':=λ{a h'} ha hs b ob e=>by
  obtain ⟨_,_,hfree⟩:=ha
  refine (I.hok b ob e).stay (λc w' hc q=>(hs.2 c ?_).trans q) (λ_ q=>q) λ_ _ q=>q
  rintro rfl
  rcases hc with rfl|hc
  ·rw [hfree] at e;cases e
  ·rw [hfree] at hc;cases hc
 rcases hx with hk|hk
 ·refine wpAny_storeName_local hk hn (λh' hn' hs=>?_) hcls
  obtain ⟨oL,_,_,hoL,_⟩:=id hn
  refine h _ ⟨I.ok,I.os,I.bare,⟨λb o e n hb hx=>?_,λb o e n hb hx=>?_,I.base.free,λb o e hx=>?_,I.base.tups,I.base.frzs,I.base.tbls⟩,⟨_,hn',λj y v' e1 e2 e3=>?_⟩,λy c e=>?_,I.free,I.freeC,λp hp=>?_,tracked ⟨oL,hoL,I.free⟩ hs,by simpa using I.len⟩ ⟨_,hs,.inl rfl⟩
  ·exact (hs.2 b (zVN (zU8 (zVB e) I.ok.above))).trans (I.base.keep b o e n hb hx)
  ·obtain ⟨sl,e1⟩:=I.base.slot b o e n hb hx
   exact ⟨sl,(hs.2 b (zVN (zU8 (zVB e) I.ok.above))).trans e1⟩
  ·obtain ⟨o',e1⟩:=I.base.there b o e hx
   exact ⟨o',(hs.2 b (zVN (zU8 (zVB e) I.ok.above))).trans e1⟩
  ·by_cases hj:j=i
   ·subst hj
    rw [hi] at e1;cases e1
    rw [zVQ hiσ] at e2
    cases e2
    exact ⟨u,r,.inl ⟨hk,by simp⟩⟩
   ·rw [zVH (Ne.symm hj)] at e2
    obtain ⟨u',r',q⟩:=hl j y v' e1 e2 e3
    refine ⟨u',r',?_⟩
    rcases q with ⟨k,e⟩|⟨k,c,e,z⟩
    ·refine .inl ⟨k,?_⟩
     have:y≠x:=λe=>hj (zJU hN e1 (e ▸ hi))
     simp [this,e]
    ·exact .inr ⟨k,c,e,z.sameBut hs (cne y c e)⟩
  ·obtain ⟨w',z⟩:=I.cell y c e
   exact ⟨w',z.sameBut hs (cne y c e)⟩
  ·obtain ⟨e,n,ne,nf,d⟩:=I.pin p hp
   exact ⟨(hs.2 p.1 ne).trans e,n,ne,nf,d⟩
 ·have hfn:X.fn x=true:=by
   rcases hf with z|z
   ·exact z
   ·rw [z] at hk;cases hk
  obtain ⟨c,hc⟩:=I.ok.has x (.inl hk)
  obtain ⟨w',z⟩:=I.cell x c hc
  refine wpAny_storeName_cell I.ok.kind hk hc z (λh' hc' hs=>?_)
  obtain ⟨oc,hoc,hocd⟩:=id z
  refine h { s with heap:=h' } ⟨I.ok,I.os,I.bare,⟨λb o e n hb hx=>?_,λb o e n hb hx=>?_,I.base.free,λb o e hx=>?_,I.base.tups,I.base.frzs,I.base.tbls⟩,⟨m,hn.sameBut hs (Ne.symm (cne x c hc)),λj y v' e1 e2 e3=>?_⟩,λy c' e=>?_,I.free,I.freeC,λp hp=>?_,tracked ⟨oc,hoc,I.freeC x c hc⟩ hs,by simpa using I.len⟩ ⟨c,hs,.inr hc⟩
  ·exact (hs.2 b (zVN (zU8 (zVB e) (I.ok.cab x c hfn hc)))).trans (I.base.keep b o e n hb hx)
  ·obtain ⟨sl,e1⟩:=I.base.slot b o e n hb hx
   exact ⟨sl,(hs.2 b (zVN (zU8 (zVB e) (I.ok.cab x c hfn hc)))).trans e1⟩
  ·obtain ⟨o',e1⟩:=I.base.there b o e hx
   exact ⟨o',(hs.2 b (zVN (zU8 (zVB e) (I.ok.cab x c hfn hc)))).trans e1⟩
  ·by_cases hj:j=i
   ·subst hj
    rw [hi] at e1;cases e1
    rw [zVQ hiσ] at e2
    cases e2
    exact ⟨u,r,.inr ⟨.inl hk,c,hc,hc'⟩⟩
   ·rw [zVH (Ne.symm hj)] at e2
    obtain ⟨u',r',q⟩:=hl j y v' e1 e2 e3
    refine ⟨u',r',?_⟩
    rcases q with q|⟨k,c',e,z'⟩
    ·exact .inl q
    ·refine .inr ⟨k,c',e,z'.sameBut hs ?_⟩
     rintro rfl
     exact hj (zJU hN e1 (I.ok.inj _ _ _ e hc ▸ hi))
  ·by_cases hcc:c'=c
   ·subst hcc;exact ⟨_,hc'⟩
   ·obtain ⟨w2,z2⟩:=I.cell y c' e
    exact ⟨w2,z2.sameBut hs hcc⟩
  ·obtain ⟨e,n,ne,nf,d⟩:=I.pin p hp
   refine ⟨(hs.2 p.1 ?_).trans e,n,ne,nf,d⟩
   intro q
   rw [q,hoc] at e
   have q':oc=p.2:=zVs e
   exact d w' (by rw [<- q'];exact hocd)
theorem zGM {M:Model} {A:Around} {E:VSt} {i:Nat} {x:Str} {v:V} {u:Value} {Q:Unit->Shared->Prop} (I:Inv X pins σ H s) (hN:X.N.Nodup) (hi:X.N[i]?=some x) (hx:Loc X.env.scope x) (r:yn v u)
  (h:∀ s',Inv X pins (σ.set i (some v)) H s'->Q () s') (hf:X.fn x=true\/X.env.scope.names.lookup x=some .local:=by first|exact .inl rfl|exact .inr rfl|assumption):wpAny M A (storeName X.env x u) Q E s:=
 zHI I hN hi hx r (λs' I' _=>h s' I') hf
theorem Inv.call' {s':Shared} {ch:List Addr} (I:Inv X pins σ H s) (ho:s'.os=s.os) (u:Un (frs X.stack) ch H H' s.heap s'.heap) (hok:HOk X.prog X.w H' s'.heap) (hg:AllBare s'.gens)
  (hch:∀ b∈ch,(b∈X.ex\/X.s₀.heap.objs.size<=b)/\b≠X.env.locals/\(∀ x c,X.env.cells.lookup x=some c->c≠b)/\∀ p∈X.pn++pins,p.1≠b):Inv X pins σ H' s':=by
 obtain ⟨h',g',d',t',o'⟩:=s'
 have e:o'=s.os:=ho
 subst e
 exact I.call (g':=g') (t':=t') (d':=d') u hok hg hch
end
abbrev XK:=Value->Option Addr->Hp->Prop
abbrev St:=List (Option V)
abbrev VK:=V->Hp->Prop
abbrev TE:=St->Hp->VK->Prop
abbrev TT:=St->Hp->(Bool->Hp->Prop)->Prop
abbrev TA:=St->Hp->(List V->Hp->Prop)->Prop
structure zLR where
 nx:St->Hp->Prop
 rt:VK
 bk:St->Hp->Prop:=λ_ _=>False
 ct:St->Hp->Prop:=λ_ _=>False
abbrev TS:=zLR->St->Hp->Prop
def EP (X:Cx) (pins:PNt) (σ:St) (Q:VK) (u:Value) (s':Shared):Prop:=∃ v H',Inv X pins σ H' s'/\yn v u/\Q v H'
def TP (X:Cx) (pins:PNt) (σ:St) (Q:Bool->Hp->Prop) (b:Bool) (s':Shared):Prop:=∃ H',Inv X pins σ H' s'/\Q b H'
def AP (X:Cx) (pins:PNt) (σ:St) (Q:List V->Hp->Prop) (us:List Value) (s':Shared):Prop:=∃ vs H',Inv X pins σ H' s'/\yN vs us/\Q vs H'
def SP (X:Cx) (pins:PNt) (D:zLR) (f:Flow) (s':Shared):Prop:=
 match f with
 |.next=>∃ σ' H',Inv X pins σ' H' s'/\D.nx σ' H'
 |.brk=>∃ σ' H',Inv X pins σ' H' s'/\D.bk σ' H'
 |.cont=>∃ σ' H',Inv X pins σ' H' s'/\D.ct σ' H'
 |.ret u=>∃ v σ' H',Inv X pins σ' H' s'/\yn v u/\D.rt v H'
def PE (X:Cx) (e:Expr) (t:TE):Prop:=
 ∀ (pins:PNt) (s:Shared) (σ:St) (H:Hp) (Q:VK),Inv X pins σ H s->t σ H Q->wpAny (model X.prog X.w) X.A (eval e X.env) (EP X pins σ Q) X.xe s
def PT (X:Cx) (e:Expr) (t:TT):Prop:=
 ∀ (pins:PNt) (s:Shared) (σ:St) (H:Hp) (Q:Bool->Hp->Prop),Inv X pins σ H s->t σ H Q->wpAny (model X.prog X.w) X.A (isTrue e X.env (eval e X.env)) (TP X pins σ Q) X.xe s
def PW (X:Cx) (e:Expr) (t:TT):Prop:=
 ∀ (whole:Sem Value) (pins:PNt) (s:Shared) (σ:St) (H:Hp) (Q:Bool->Hp->Prop),Inv X pins σ H s->t σ H Q->wpAny (model X.prog X.w) X.A (isTrue e X.env whole) (TP X pins σ Q) X.xe s
theorem PW.pt {X:Cx} {e:Expr} {t:TT} (h:PW X e t):PT X e t:=h _
def PA (X:Cx) (es:List Expr) (t:TA):Prop:=
 ∀ (pos:Pos) (pins:PNt) (s:Shared) (σ:St) (H:Hp) (Q:List V->Hp->Prop),Inv X pins σ H s->t σ H Q->wpAny (model X.prog X.w) X.A (spliced (backTo pos (starEach es X.env))) (AP X pins σ Q) X.xe s
def PS (X:Cx) (st:Stmt) (t:TS):Prop:=
 ∀ (pins:PNt) (s:Shared) (σ:St) (H:Hp) (D:zLR),Inv X pins σ H s->t D σ H->wpAny (model X.prog X.w) X.A (exec st X.env) (SP X pins D) X.xe s
def PSs (X:Cx) (st:List Stmt) (t:TS):Prop:=
 ∀ (pins:PNt) (s:Shared) (σ:St) (H:Hp) (D:zLR),Inv X pins σ H s->t D σ H->wpAny (model X.prog X.w) X.A (execs st X.env) (SP X pins D) X.xe s
theorem thn {α:Type} {t:Sem α} {Q Q':α->Shared->Prop} {M:Model} {A:Around} {E:VSt} {s:Shared} (h:wpAny M A t Q E s) (hQ:∀ a s,Q a s->Q' a s):wpAny M A t Q' E s:=zVk h hQ λ_ _ x=>x
end L2
namespace L2
open PySem PySem.Spec PyProof.Rows
section
variable {X:Cx}
theorem bin {a b:Expr} {ta tb:TE} (ha:PE X a ta) (hb:PE X b tb) {pins:PNt} {s:Shared} {σ:St} {H:Hp} {R:V->V->Hp->Prop} (I:Inv X pins σ H s) (h:ta σ H λx H1=>tb σ H1 λy H2=>R x y H2)
  {α:Type} {Q:α->Shared->Prop} {f:Value->Value->Sem α}
  (hf:∀ v u s2 x y H2,Inv X pins σ H2 s2->yn x v->yn y u->R x y H2->wpAny (model X.prog X.w) X.A (f v u) Q X.xe s2) :
  wpAny (model X.prog X.w) X.A (eval a X.env) (λv s₁=>wpAny (model X.prog X.w) X.A (eval b X.env) (λu s₂=>wpAny (model X.prog X.w) X.A (f v u) Q X.xe s₂) X.xe s₁) X.xe s:=by
 refine thn (ha pins s σ H _ I h) λv s1 zz=>?_
 obtain ⟨x,H1,I1,r1,q1⟩:=zz
 refine thn (hb pins s1 σ H1 _ I1 q1) λu s2 zz=>?_
 obtain ⟨y,H2,I2,r2,q2⟩:=zz
 exact hf v u s2 x y H2 I2 r1 r2 q2
def zBG (i:Nat):TE:=λσ H Q=>∃ v,σ[i]?=some (some v)/\Q v H
def tC (v:V):TE:=λ_ H Q=>Q v H
theorem zSx {i:Nat} {x:Str} {pos:Pos} (hN:X.N[i]?=some x) (hv:Vis X.env.scope x) (hd:(x == ("__debug__" : Str))=false:=by decide) (hcd:(x == ("__classdict__" : Str))=false:=by decide):PE X (.Name x pos) (zBG i):=by
 intro pins s σ H Q I h
 obtain ⟨v,e,h⟩:=h
 obtain ⟨m,hn,hl⟩:=I.loc
 obtain ⟨u,r,l⟩:=hl i x v hN e hv
 have fin:EP X pins σ Q u s:=⟨v,H,I,r,h⟩
 rcases l with ⟨hk,hm⟩|⟨hk,c,hc,hcell⟩
 ·exact wpAny_Name (wpAny_loadName_local I.ok.kind hk hn hm fin) hd
 ·rcases hk with hk|hk
  ·exact wpAny_Name (wpAny_loadName_cell I.ok.kind hk hc hcell fin) hd
  ·exact wpAny_Name (wpAny_loadName_free I.ok.kind hk hc hcell fin hcd) hd
theorem zPr {i j pos}:PE X (.Constant (.int i) j pos) (tC (.int i)):=λ_ _ _ H _ I h=>wpAny_Constant_int ⟨.int i,H,I.tok _,⟨_,rfl⟩,h⟩
theorem pe_bl {b j pos}:PE X (.Constant (.bool b) j pos) (tC (.bl b)):=λ_ _ _ H _ I h=>Constant_bool ⟨.bl b,H,I,rfl,h⟩
theorem zSy {j pos}:PE X (.Constant .none j pos) (tC .non):=λ_ _ _ H _ I h=>Constant_none ⟨.non,H,I,rfl,h⟩
theorem zPs {x j pos}:PE X (.Constant (.str x) j pos) (tC (.str x)):=λ_ _ _ H _ I h=>Calls.Constant_str ⟨.str x,H,I.tok _,⟨_,rfl⟩,h⟩
def Gl (X:Cx) (x:Str):Prop:=X.env.kindOf x=some .globalImplicit
theorem zGN {E:VSt} {pins:PNt} {s:Shared} {σ:St} {H:Hp} {x:Str} {u:Value} {pos:Pos} {Q:VSt} (I:Inv X pins σ H s) (hg:Gl X x) (hm:X.mg x=some u) (h:Q u s)
  (hd:(x == ("__debug__" : Str))=false:=by decide):wpAny (model X.prog X.w) X.A (eval (.Name x pos) X.env) Q E s:=
 Calls.Name_function_global I.ok.kind hg (Calls.loadGlobal_global (by rw [I.ok.glob];exact I.mod.glob.keeps I.bk) hm h) hd
theorem zFg {E:VSt} {pins:PNt} {s:Shared} {σ:St} {H:Hp} {x:Str} {u:Value} {pos:Pos} {Q:VSt} (I:Inv X pins σ H s) (hg:Gl X x) (hm:X.mg x=none) (hv:bootBuiltins x=some u) (h:Q u s)
  (hn:x ≠ "__name__":=by decide) (hd:(x == ("__debug__" : Str))=false:=by decide):wpAny (model X.prog X.w) X.A (eval (.Name x pos) X.env) Q E s:=by
 obtain ⟨mb,h1,h2⟩:=I.mod.blt
 exact Calls.Name_function_global I.ok.kind hg (Calls.loadGlobal_builtin (by rw [I.ok.glob];exact I.mod.glob.keeps I.bk) hm (by rw [I.ok.blt];exact h1.keeps I.bk) ((h2 x hn).trans hv) h) hd
theorem zQi {x:Str} {v:V} {u:Value} {pos:Pos} (hg:Gl X x) (hm:X.mg x=none) (hv:bootBuiltins x=some u) (r:yn v u) (hn:x ≠ "__name__":=by decide) (hd:(x == ("__debug__" : Str))=false:=by decide):PE X (.Name x pos) (tC v):=
 λ_ _ _ H _ I h=>zFg I hg hm hv ⟨v,H,I,r,h⟩ hn hd
def t2I (ta tb:TE) (k:Int->Int->Hp->Prop):St->Hp->Prop:=λσ H=>ta σ H λx H1=>tb σ H1 λy H2=>∃ i j,x = .int i/\y = .int j/\k i j H2
variable {a b:Expr} {ta tb:TE} {pos:Pos}
def PC (X:Cx) (op:CmpOp) (a b:Expr) (t:TE):Prop:=
 ∀ (pins:PNt) (s:Shared) (σ:St) (H:Hp) (Q:VK),Inv X pins σ H s->t σ H Q ->
  wpAny (model X.prog X.w) X.A (eval a X.env) (λv s₁=>wpAny (model X.prog X.w) X.A (eval b X.env) (λu s₂=>wpAny (model X.prog X.w) X.A (compareOp op v u) (EP X pins σ Q) X.xe s₂) X.xe s₁) X.xe s
theorem zJV (b:Expr) {op:CmpOp} (h:op≠.In) (h2:op≠.NotIn):behindInMarks op b=false:=by
 have e1:(op == CmpOp.In)=false:=by cases op<;>first|rfl|exact absurd rfl h
 have e2:(op == CmpOp.NotIn)=false:=by cases op<;>first|rfl|exact absurd rfl h2
 cases b<;>simp [behindInMarks,e1,e2]
def tCmp (p:Int->Int->Bool) (ta tb:TE):TE:=λσ H Q=>t2I ta tb (λi j H2=>Q (.bl (p i j)) H2) σ H
abbrev tGt:TE->TE->TE:=tCmp λi j=>decide (j<i)
def tB (t:TE):TT:=λσ H Q=>t σ H λx H1=>∃ c,x = .bl c/\Q c H1
theorem zSz {op:CmpOp} {t:TE} (h:PC X op a b t) (h1:behindInMarks op b=false:=by first|exact zJV _ (by decide) (by decide)|rfl):PE X (.Compare a [op] [b] pos) t:=λpins s σ H Q I hw=>wpAny_Compare1 (h pins s σ H Q I hw) h1
theorem zPt {op:CmpOp} {t:TE} (h:PC X op a b t) (h1:behindInMarks op b=false:=by first|exact zJV _ (by decide) (by decide)|rfl):PT X (.Compare a [op] [b] pos) (tB t):=by
 intro pins s σ H Q I hw
 refine wpAny_isTrue_Compare1 (thn (h pins s σ H _ I hw) λv s1 h1=>thn h1 λu s2 h2=>thn h2 λc s3 ⟨x,H1,I1,r1,q1⟩=>?_) h1
 obtain ⟨d,rfl,q⟩:=q1
 cases r1
 exact zWJ ⟨H1,I1,q⟩
variable {tA tB':TT} {rest:List Expr}
def tAnd (t u:TT):TT:=λσ H Q=>t σ H λc H1=>if c=true then u σ H1 Q else Q false H1
def tOr (t u:TT):TT:=λσ H Q=>t σ H λc H1=>if c=true then Q true H1 else u σ H1 Q
def tNot (t:TT):TT:=λσ H Q=>t σ H λc H1=>Q (!c) H1
theorem zQj (ha:PT X a tA):PW X (.BoolOp .And [a] pos) tA:=by
 intro wh pins s σ H Q I h
 refine isTrue_and (thn (ha pins s σ H Q I h) λc s1 e=>?_)
 cases c with
 |true=>exact isTrue_and_nil e
 |false=>exact e
theorem zS0 (ha:PT X a tA):PW X (.BoolOp .Or [a] pos) tA:=by
 intro wh pins s σ H Q I h
 refine isTrue_or (thn (ha pins s σ H Q I h) λc s1 e=>?_)
 cases c with
 |false=>exact isTrue_or_nil e
 |true=>exact e
theorem zS1 (ha:PT X a tA) (hb:PW X (.BoolOp .And (b::rest) pos) tB'):PW X (.BoolOp .And (a::b::rest) pos) (tAnd tA tB'):=by
 intro wh pins s σ H Q I h
 refine isTrue_and (thn (ha pins s σ H _ I h) λc s1 zz=>?_)
 obtain ⟨H1,I1,q1⟩:=zz
 cases c with
 |true=>exact hb wh pins s1 σ H1 Q I1 q1
 |false=>exact ⟨H1,I1,q1⟩
theorem pw_or (ha:PT X a tA) (hb:PW X (.BoolOp .Or (b::rest) pos) tB'):PW X (.BoolOp .Or (a::b::rest) pos) (tOr tA tB'):=by
 intro wh pins s σ H Q I h
 refine isTrue_or (thn (ha pins s σ H _ I h) λc s1 zz=>?_)
 obtain ⟨H1,I1,q1⟩:=zz
 cases c with
 |true=>exact ⟨H1,I1,q1⟩
 |false=>exact hb wh pins s1 σ H1 Q I1 q1
theorem zPu (ha:PT X a tA):PT X (.UnaryOp .Not a pos) (tNot tA):=by
 intro pins s σ H Q I h
 exact isTrue_not (ha pins s σ H (λc H1=>Q (!c) H1) I h)
def tAndV (ta tb:TE):TE:=λσ H Q=>ta σ H λx H1=>∃ c,x = .bl c/\if c=true then tb σ H1 Q else Q (.bl false) H1
def tOrV (ta tb:TE):TE:=λσ H Q=>ta σ H λx H1=>∃ c,x = .bl c/\if c=true then Q (.bl true) H1 else tb σ H1 Q
def tNotV (ta:TE):TE:=λσ H Q=>ta σ H λx H1=>∃ c,x = .bl c/\Q (.bl (!c)) H1
theorem zS2 {op} {t:TE} (h:PE X a t):PE X (.BoolOp op [a] pos) t:=λpins s σ H Q I hw=>BoolOp_one (h pins s σ H Q I hw)
theorem zS3 (ha:PE X a ta) (hb:PE X (.BoolOp .And (b::rest) pos) tb):PE X (.BoolOp .And (a::b::rest) pos) (tAndV ta tb):=by
 intro pins s σ H Q I h
 refine BoolOp_and (thn (ha pins s σ H _ I h) λv s1 zz=>?_)
 obtain ⟨x,H1,I1,r1,q1⟩:=zz
 obtain ⟨c,rfl,q1⟩:=q1
 cases r1
 refine zWJ ?_
 cases c with
 |true=>exact hb pins s1 σ H1 Q I1 q1
 |false=>exact ⟨.bl false,H1,I1,rfl,q1⟩
theorem pe_or (ha:PE X a ta) (hb:PE X (.BoolOp .Or (b::rest) pos) tb):PE X (.BoolOp .Or (a::b::rest) pos) (tOrV ta tb):=by
 intro pins s σ H Q I h
 refine BoolOp_or (thn (ha pins s σ H _ I h) λv s1 zz=>?_)
 obtain ⟨x,H1,I1,r1,q1⟩:=zz
 obtain ⟨c,rfl,q1⟩:=q1
 cases r1
 refine zWJ ?_
 cases c with
 |false=>exact hb pins s1 σ H1 Q I1 q1
 |true=>exact ⟨.bl true,H1,I1,rfl,q1⟩
theorem zS4 (ha:PE X a ta):PE X (.UnaryOp .Not a pos) (tNotV ta):=by
 intro pins s σ H Q I h
 refine UnaryOp_ (thn (ha pins s σ H _ I h) λv s1 zz=>?_)
 obtain ⟨x,H1,I1,r1,q1⟩:=zz
 obtain ⟨c,rfl,q1⟩:=q1
 cases r1
 exact not_of (zWJ ⟨.bl (!c),H1,I1,rfl,q1⟩)
def tIf (t:TT) (ta tb:TE):TE:=λσ H Q=>t σ H λc H1=>if c=true then ta σ H1 Q else tb σ H1 Q
theorem zNy {c:Expr} (hc:PT X c tA) (ha:PE X a ta) (hb:PE X b tb):PE X (.IfExp c a b pos) (tIf tA ta tb):=by
 intro pins s σ H Q I h
 refine wpAny_IfExp (thn (hc pins s σ H _ I h) λd s1 zz=>?_)
 obtain ⟨H1,I1,q1⟩:=zz
 cases d with
 |true=>exact ha pins s1 σ H1 Q I1 q1
 |false=>exact hb pins s1 σ H1 Q I1 q1
end
end L2
namespace L2
open PySem PySem.Spec PyProof.Rows
def SqL (K:Fg) (H:Hp) (a:Addr) (xs:List V):Prop:=
 Rd H a (.lst xs) \/
  ∃ (o:Obj) (its:Array Value) (n:Nat),K.lookup a=some o/\o.cls = .type "list"/\o.dict=none/\o.data = .seq its n/\its.size<=sizeLine/\yN xs its.toList
def SqT (K:Fg) (H:Hp) (a:Addr) (xs:List V):Prop:=
 Rd H a (.tup xs) \/
  ∃ (o:Obj) (its:Array Value) (n:Nat),K.lookup a=some o/\o.cls = .type "tuple"/\o.dict=none/\o.data = .seq its n/\its.size<=sizeLine/\yN xs its.toList
def absV:Value->Option V
 |.none=>some .non
 |.bool b=>some (.bl b)
 |.int i _=>some (.int i)
 |.str x _=>some (.str x)
 |.bytes b _=>some (.byt b)
 |.float b _=>some (.flt b)
 |.ref a=>some (.ref a)
 |.type n=>some (.ty n)
 |_=>none
theorem yn.abs {x:V} {u:Value} (r:yn x u):absV u=some x:=by
 cases x with
 |non=>cases r;rfl
 |bl _=>cases r;rfl
 |int _=>obtain ⟨t,rfl⟩:=r;rfl
 |str _=>obtain ⟨t,rfl⟩:=r;rfl
 |byt _=>obtain ⟨t,rfl⟩:=r;rfl
 |flt _=>obtain ⟨t,rfl⟩:=r;rfl
 |ref _=>cases r;rfl
 |ty _=>cases r;rfl
theorem yn.inj {x y:V} {u:Value} (r:yn x u) (q:yn y u):x=y:=zVs (r.abs.symm.trans q.abs)
theorem yN.inj:∀ {xs ys:List V} {us:List Value},yN xs us->yN ys us->xs=ys
 |_,_,_,.nil,.nil=>rfl
 |_,_,_,.cons r t,.cons r' t'=>by rw [r.inj r',yN.inj t t']
section
variable {X:Cx} {pins:PNt} {σ:St} {H:Hp} {s:Shared} {a:Addr} {xs ys:List V}
theorem SqL.of {K:Fg} (h:H a=some (.lst xs)):SqL K H a xs:=.inl (.inl h)
theorem SqT.of {K:Fg} (h:H a=some (.tup xs)):SqT K H a xs:=.inl (.inl h)
theorem Inv.list (I:Inv X pins σ H s) (h:SqL X.K H a xs):∃ its:List Value,yN xs its/\PlainL s.heap a its.toArray/\xs.length<=sizeLine:=by
 rcases h with h|⟨o,its,n,hk,hc,hd,hs,hz,r⟩
 ·obtain ⟨z,its,n,r,e⟩:=h.ok I.hok
  exact ⟨its,r,⟨_,n,e,rfl,rfl,rfl⟩,z⟩
 ·refine ⟨its.toList,r,⟨o,n,I.kIn a o hk,hc,hd,by simpa using hs⟩,?_⟩
  have e:=r.length
  simp only [zWq] at e
  omega
theorem Inv.tupleN (I:Inv X pins σ H s) (h:SqT X.K H a xs):∃ its:List Value,yN xs its/\zAw s.heap a its.toArray/\xs.length<=sizeLine:=by
 rcases h with h|⟨o,its,n,hk,hc,hd,hs,hz,r⟩
 ·obtain ⟨z,its,r,p⟩:=h.ok I.hok
  exact ⟨its,r,p,z⟩
 ·refine ⟨its.toList,r,⟨o,I.kIn a o hk,hc,n,by simpa using hs,hd⟩,?_⟩
  have e:=r.length
  simp only [zWq] at e
  omega
theorem Inv.tuple (I:Inv X pins σ H s) (h:SqT X.K H a xs):∃ its:List Value,yN xs its/\IsTup s.heap a its.toArray/\xs.length<=sizeLine:=
 let ⟨its,r,p,z⟩:=I.tupleN h
 ⟨its,r,p.tup,z⟩
theorem Inv.list_inj (I:Inv X pins σ H s) (h:SqL X.K H a xs) (h':SqL X.K H a ys):xs=ys:=by
 obtain ⟨its,r,⟨o,n,e,_,_,d⟩,_⟩:=I.list h
 obtain ⟨its',r',⟨o',n',e',_,_,d'⟩,_⟩:=I.list h'
 rw [e] at e';cases e'
 rw [d] at d'
 injection d' with d1 _
 have:its=its':=by simpa using zVw Array.toList d1
 subst this
 exact r.inj r'
theorem Inv.tuple_inj (I:Inv X pins σ H s) (h:SqT X.K H a xs) (h':SqT X.K H a ys):xs=ys:=by
 obtain ⟨its,r,⟨o,e,_,n,d⟩,_⟩:=I.tuple h
 obtain ⟨its',r',⟨o',e',_,n',d'⟩,_⟩:=I.tuple h'
 rw [e] at e';cases e'
 rw [d] at d'
 injection d' with d1 _
 have:its=its':=by simpa using zVw Array.toList d1
 subst this
 exact r.inj r'
end
abbrev Cx.wish (X:Cx) (E:VSt):Cx:={ X with xe:=E }
abbrev Cx.nox (X:Cx):Cx:=X.wish λ_ _=>False
theorem Cx.Ok.wish {X:Cx} (ok:X.Ok) (E:VSt):(X.wish E).Ok:=
 ⟨ok.mod,ok.kind,ok.glob,ok.blt,ok.above,ok.inj,ok.has,ok.cab,ok.hd,ok.frames,ok.stk,ok.exf,ok.bs,ok.bsz,ok.noex,ok.exfs,ok.funs,ok.frf⟩
theorem Cx.Ok.unwish {X:Cx} {E:VSt} (ok:(X.wish E).Ok):X.Ok:=
 ⟨ok.mod,ok.kind,ok.glob,ok.blt,ok.above,ok.inj,ok.has,ok.cab,ok.hd,ok.frames,ok.stk,ok.exf,ok.bs,ok.bsz,ok.noex,ok.exfs,ok.funs,ok.frf⟩
section
variable {X:Cx} {pins:PNt} {σ:St} {H:Hp} {s:Shared} {E:VSt}
theorem Inv.wish (I:Inv X pins σ H s) (E:VSt):Inv (X.wish E) pins σ H s:=⟨I.ok.wish E,I.os,I.bare,I.base,I.loc,I.cell,I.free,I.freeC,I.pin,I.hok,I.len⟩
theorem Inv.unwish (I:Inv (X.wish E) pins σ H s):Inv X pins σ H s:=⟨I.ok.unwish,I.os,I.bare,I.base,I.loc,I.cell,I.free,I.freeC,I.pin,I.hok,I.len⟩
theorem SP.unwish {D:zLR} {f:Flow} {s':Shared} (h:SP (X.wish E) pins D f s'):SP X pins D f s':=by
 cases f with
 |next=>obtain ⟨σ',H',I,q⟩:=h;exact ⟨σ',H',I.unwish,q⟩
 |brk=>obtain ⟨σ',H',I,q⟩:=h;exact ⟨σ',H',I.unwish,q⟩
 |cont=>obtain ⟨σ',H',I,q⟩:=h;exact ⟨σ',H',I.unwish,q⟩
 |ret u=>obtain ⟨v,σ',H',I,r,q⟩:=h;exact ⟨v,σ',H',I.unwish,r,q⟩
theorem PSs.nox {st:List Stmt} {t:TS} (h:PSs X.nox st t):PSs X st t:=λpins s σ H D I hw=>
 zVk (h pins s σ H D (I.wish _) hw) (λ_ _ q=>q.unwish) λ_ _ z=>False.elim z
end
section
variable {X:Cx} {st:Stmt} {rest:List Stmt} {t u:TS} {e:Expr} {te:TE} {pos:Pos}
def tNext:TS:=λD σ H=>D.nx σ H
def tSeq (t u:TS):TS:=λD σ H=>t { D with nx:=u D } σ H
theorem zQk:PSs X [] tNext:=λ_ _ σ H _ I h=>zWi ⟨σ,H,I,h⟩
theorem zJW (h1:PS X st t) (h2:PSs X rest u):PSs X (st::rest) (tSeq t u):=by
 intro pins s σ H D I h
 refine wpAny_execs_cons (thn (h1 pins s σ H { D with nx:=u D } I h) λf s1 q=>?_)
 cases f with
 |next=>
  obtain ⟨σ',H',I',q⟩:=q
  exact h2 pins s1 σ' H' D I' q
 |ret v=>exact q
 |brk=>exact q
 |cont=>exact q
theorem zLS (h1:PS X st t):PSs X [st] t:=by
 intro pins s σ H D I h
 refine wpAny_execs_cons (thn (h1 pins s σ H D I h) λf s1 q=>?_)
 cases f with
 |next=>exact zWi q
 |ret v=>exact q
 |brk=>exact q
 |cont=>exact q
def tCont:TS:=λD σ H=>D.ct σ H
theorem zIW:PS X (.Continue pos) tCont:=λ_ _ σ H _ I h=>wpAny_Continue ⟨σ,H,I,h⟩
theorem Inv.quiet {pins:PNt} {σ:St} {H:Hp} {s:Shared} (I:Inv X pins σ H s):interactive X.env=false:=by simp [interactive,I.ok.kind]
def tDrop (te:TE):TS:=λD σ H=>te σ H λ_ H1=>D.nx σ H1
theorem zBq (he:PE X e te) (hs:swapsWith e none pos.line X.env=pure false:=by rfl):PS X (.Expr e pos) (tDrop te):=by
 intro pins s σ H D I h
 exact wpAny_Expr_any (thn (he pins s σ H _ I h) λv s1 ⟨x,H1,I1,r1,q1⟩=>⟨σ,H1,I1,q1⟩) I.quiet hs
def tRet (te:TE):TS:=λD σ H=>te σ H D.rt
theorem zFh (he:PE X e te):PS X (.Return (some e) pos) (tRet te):=by
 intro pins s σ H D I h
 exact wpAny_Return_some (thn (he pins s σ H _ I h) λv s1 ⟨x,H1,I1,r1,q1⟩=>⟨x,σ,H1,I1,r1,q1⟩)
def tIfS (c:TT) (t u:TS):TS:=λD σ H=>c σ H λb H1=>if b=true then t D σ H1 else u D σ H1
theorem zQl {c:Expr} {a b:List Stmt} {tc:TT} (hc:PT X c tc) (ha:PSs X a t) (hb:PSs X b u):PS X (.If c a b pos) (tIfS tc t u):=by
 intro pins s σ H D I h
 refine wpAny_If (thn (hc pins s σ H _ I h) λd s1 zz=>?_)
 obtain ⟨H1,I1,q1⟩:=zz
 cases d with
 |true=>exact ha pins s1 σ H1 D I1 q1
 |false=>exact hb pins s1 σ H1 D I1 q1
def zS5:TS:=λ_ _ _=>False
theorem zNz:PS X st zS5:=λ_ _ _ _ _ _ h=>h.elim
end
abbrev TG:=V->St->Hp->(St->Hp->Prop)->Prop
abbrev TGs:=List V->St->Hp->(St->Hp->Prop)->Prop
def PG (X:Cx) (target:Expr) (t:TG):Prop:=
 ∀ (pins:PNt) (s:Shared) (σ:St) (H:Hp) (v:V) (u:Value) (Q:St->Hp->Prop),Inv X pins σ H s->yn v u->t v σ H Q ->
  wpAny (model X.prog X.w) X.A (assign target X.env u) (λ_ s'=>∃ σ' H',Inv X pins σ' H' s'/\Q σ' H') X.xe s
def PGs (X:Cx) (ts:List Expr) (t:TGs):Prop:=
 ∀ (pins:PNt) (s:Shared) (σ:St) (H:Hp) (vs:List V) (us:List Value) (Q:St->Hp->Prop),Inv X pins σ H s->yN vs us->t vs σ H Q ->
  wpAny (model X.prog X.w) X.A (assignInOrder ((assignEach ts X.env).map (·.2)) us) (λ_ s'=>∃ σ' H',Inv X pins σ' H' s'/\Q σ' H') X.xe s
abbrev TSet:=V->V->V->Hp->(Hp->Prop)->Prop
def PSet (X:Cx) (t:TSet):Prop:=
 ∀ (pins:PNt) (s:Shared) (σ:St) (H:Hp) (o i v:V) (ov iv u:Value) (Q:Hp->Prop),Inv X pins σ H s->yn o ov->yn i iv->yn v u->t o i v H Q ->
  wpAny (model X.prog X.w) X.A (setItem ov iv u) (λ_ s'=>∃ H',Inv X pins σ H' s'/\Q H') X.xe s
section
variable {X:Cx} {pos:Pos}
def zS6 (i:Nat):TG:=λv σ H Q=>Q (σ.set i (some v)) H
theorem zQm {i:Nat} {x:Str} (hN:X.N.Nodup) (hi:X.N[i]?=some x) (hx:Loc X.env.scope x) (hf:X.fn x=true\/X.env.scope.names.lookup x=some .local:=by first|exact .inl rfl|exact .inr rfl|assumption):PG X (.Name x pos) (zS6 i):=by
 intro pins s σ H v u Q I r h
 exact wpAny_assign_Name (zGM I hN hi hx r (λs' I'=>⟨_,H,I',h⟩) hf)
def gNil:TGs:=λvs σ H Q=>vs = []/\Q σ H
def gCons (t:TG) (u:TGs):TGs:=λvs σ H Q=>∃ v r,vs=v::r/\t v σ H λσ' H'=>u r σ' H' Q
theorem zQn:PGs X [] gNil:=by
 intro pins s σ H vs us Q I r h
 obtain ⟨e,h⟩:=h
 subst e
 cases r
 exact assignInOrder_nil ⟨σ,H,I,h⟩
theorem zN0 {e:Expr} {es:List Expr} {t:TG} {u:TGs} (h1:PG X e t) (h2:PGs X es u)
  (hs:(assignEach (e::es) X.env).map (·.2)=assign e X.env::(assignEach es X.env).map (·.2):=by rfl):PGs X (e::es) (gCons t u):=by
 intro pins s σ H vs us Q I r h
 obtain ⟨v,vr,e1,h⟩:=h
 subst e1
 cases r with
 |cons r rr=>
  rw [hs]
  refine assignInOrder_cons (thn (h1 pins s σ H _ _ _ I r h) λ_ s1 zz=>?_)
  obtain ⟨σ1,H1,I1,q1⟩:=zz
  exact h2 pins s1 σ1 H1 _ _ Q I1 rr q1
def gTup (K:Fg) (n:Nat) (t:TGs):TG:=λv σ H Q=>∃ a xs,v = .ref a/\SqT K H a xs/\xs.length=n/\t xs σ H Q
theorem zS7 {es:List Expr} {k:Nat} {t:TGs} {n:Nat} (hc:X.calm=true) (h:PGs X es t)
  (hn:(assignEach es X.env).length=n:=by rfl) (hst:(assignEach es X.env).findIdx? (·.1)=none:=by rfl):PG X (.Tuple es k pos) (gTup X.K n t):=by
 intro pins s σ H v u Q I r hw
 obtain ⟨a,xs,e1,hq,hl,hw⟩:=hw
 subst e1
 cases r
 obtain ⟨its,rv,ht,hz⟩:=I.tuple hq
 refine assign_Tuple_tuple (I.ok.hd hc) ht (by simp [hn,<- hl,rv.length]) hst λh' hx=>?_
 have I1:Inv X pins σ H { s with heap:=h' }:=I.kept (t':=s.toks) λb o e=>hx b o (zVN (zVB e)) e
 exact h pins _ σ H xs _ Q I1 (by simpa using rv) hw
def gSub (to ti:TE) (t:TSet):TG:=λv σ H Q=>to σ H λo H1=>ti σ H1 λi H2=>t o i v H2 λH3=>Q σ H3
theorem zPv {o i:Expr} {to ti:TE} {t:TSet} (ho:PE X o to) (hi:PE X i ti) (hs:PSet X t)
  (ha:∀ v,assign (.Subscript o i pos) X.env v=(do
   let ov <- holding [v] (eval o X.env)
   let iv <- holding [v,ov] (eval i X.env)
   standAt pos
   holding [v,ov,iv] (setItem ov iv v)
   release [v,ov,iv] []):=by intro _;rfl):PG X (.Subscript o i pos) (gSub to ti t):=by
 intro pins s σ H v u Q I r h
 rw [ha]
 refine zUz (zWQ (thn (ho pins s σ H _ I h) λov s1 zz=>?_))
 obtain ⟨x,H1,I1,r1,q1⟩:=zz
 refine zUz (zWQ (thn (hi pins s1 σ H1 _ I1 q1) λiv s2 zz=>?_))
 obtain ⟨y,H2,I2,r2,q2⟩:=zz
 refine zUz (wpAny_standAt (zUz (zWQ (thn (hs pins s2 σ H2 x y v ov iv u _ I2 r1 r2 r q2) λ_ s3 zz=>?_))))
 obtain ⟨H3,I3,q3⟩:=zz
 exact wpAny_release ⟨σ,H3,I3,q3⟩
def tAsg (te:TE) (g:TG):TS:=λD σ H=>te σ H λx H1=>g x σ H1 D.nx
theorem zLT {tg e:Expr} {te:TE} {g:TG} (he:PE X e te) (hg:PG X tg g) (hs:swapsWithSole [tg] e pos.line X.env=pure false:=by rfl) (hw:swappedStores [tg] e X.env=pure none:=by rfl)
  (h1:(assignEach [tg] X.env).map (·.2) = [assign tg X.env]:=by rfl):PS X (.Assign [tg] e pos) (tAsg te g):=by
 intro pins s σ H D I h
 refine wpAny_Assign_stores (thn (he pins s σ H _ I h) λv s1 ⟨x,H1,I1,r1,q1⟩=>?_) hs hw
 rw [h1]
 exact thn (hg pins s1 σ H1 x v _ I1 r1 q1) λ_ s2 q=>q
theorem zDw {i:Nat} {x:Str} {e:Expr} {te:TE} {pos':Pos} (hN:X.N.Nodup) (hi:X.N[i]?=some x) (hx:Loc X.env.scope x) (he:PE X e te) (hs:swapsWith e (some (.Name x pos')) pos.line X.env=pure false:=by rfl) (hf:X.fn x=true\/X.env.scope.names.lookup x=some .local:=by first|exact .inl rfl|exact .inr rfl|assumption) :
  PS X (.Assign [.Name x pos'] e pos) (tAsg te (zS6 i)):=by
 intro pins s σ H D I h
 refine wpAny_Assign_Name (thn (he pins s σ H _ I h) λv s1 ⟨y,H1,I1,r1,q1⟩=>?_) hs
 exact zGM I1 hN hi hx r1 (λs2 I2=>⟨_,H1,I2,q1⟩) hf
end
section
variable {X:Cx} {pos:Pos}
def zS8 (c:TT) (tb:TS):TS:=λD σ H=>∃ W:Nat->St->Hp->Prop,(∃ m,W m σ H)/\∀ m σ H,W m σ H ->
 c σ H λb H1=>if b=true then ∃ N:St->Hp->Prop,(∀ σ' H',N σ' H'->∃ m',m' < m/\W m' σ' H')/\tb { D with nx:=N,ct:=N,bk:=D.nx } σ H1 else D.nx σ H1
theorem zJX {c:Expr} {body:List Stmt} {tc:TT} {tb:TS} (hp:PassesOwn (model X.prog X.w) X.A X.env X.xe) (hc:PT X c tc) (hb:PSs X body tb):PS X (.While c body [] pos) (zS8 tc tb):=by
 intro pins s σ H D I h
 obtain ⟨W,⟨m0,w0⟩,turn⟩:=h
 refine wpAny_While (codeAny_whileLoop (λn s'=>∃ σ' H',Inv X pins σ' H' s'/\W n σ' H') ?_ m0 ⟨σ,H,I,w0⟩)
 rintro n s1 ⟨σ1,H1,I1,w1⟩
 refine zWY hp (thn (hc pins s1 σ1 H1 _ I1 (turn n σ1 H1 w1)) λb s2 zz=>?_)
 obtain ⟨H2,I2,q2⟩:=zz
 cases b with
 |true=>
  obtain ⟨N,hN,q2⟩:=q2
  rw [zVE rfl]
  refine zWY hp (thn (hb pins s2 σ1 H2 _ I2 q2) λf s3 q3=>?_)
  cases f with
  |next=>
   obtain ⟨σ3,H3,I3,n3⟩:=q3
   obtain ⟨m',hm,w3⟩:=hN σ3 H3 n3
   exact ⟨m',hm,σ3,H3,I3,w3⟩
  |cont=>
   obtain ⟨σ3,H3,I3,n3⟩:=q3
   obtain ⟨m',hm,w3⟩:=hN σ3 H3 n3
   exact ⟨m',hm,σ3,H3,I3,w3⟩
  |brk=>exact q3
  |ret v=>exact q3
 |false=>
  rw [zVe zVV]
  exact zWi ⟨σ1,H2,I2,q2⟩
end
structure It where
 go:Nat->Hp->Prop
 yld:Nat->Hp->V->Hp->Prop
 stop:Nat->Hp->Prop
def FpOk (X:Cx) (pins:PNt) (H:Hp) (b:Addr):Prop:=
 H b=none/\b≠X.env.locals/\b∉X.fs/\(b∈X.ex\/X.s₀.heap.objs.size<=b)/\(∀ x c,X.env.cells.lookup x=some c->c≠b)/\∀ p∈X.pn++pins,p.1≠b
theorem Inv.fpOk {X:Cx} {pins:PNt} {σ:St} {H H':Hp} {s:Shared} {b:Addr} (I:Inv X pins σ H s) (hb:s.heap.objs.size<=b) (hn:H' b=none):FpOk X pins H' b:=by
 refine ⟨hn,zXS (zU8 I.lt hb),I.nofs hb,.inr (zVb I.sz hb),λx c e z=>?_,λp hp z=>?_⟩
 ·obtain ⟨v,q⟩:=I.cell x c e
  exact absurd (zU8 q.lt (by rw [z];exact hb)) (zWE _)
 ·exact absurd (zU8 (zVB (I.pin p hp).1) (by rw [z];exact hb)) (zWE _)
structure zQo (P:Program) (w:World) (K:Fg) (tg:Expr) (J:It) (fp:List Addr) (it:Addr) (tn:Nat->Heap->Prop):Prop where
 mem:it∈fp
 obj:∀ i h,tn i h->∀ b∈fp,∃ o,h.get? b=some o/\∀ v,o.data≠.cell v
 keep:∀ i h h',tn i h->(∀ b∈fp,∀ o,h.get? b=some o->h'.get? b=some o)->tn i h'
 item:∀ (X:Cx),X.prog=P->X.w=w->X.K=K->X.calm=true->∀ (i:Nat) (pins:PNt) (s:Shared) (σ:St) (H:Hp) (E:VSt),Inv X pins σ H s->(∀ b∈fp,FpOk X pins H b)->tn i s.heap->J.go i H ->
  wpAny (model P w) X.A (pyNext (.ref it)) (λr s1=>∃ u,r=some u /\
   wpAny (model P w) X.A (letOwnedTupleGo tg (.ref it) u) (λ_ s2=>∃ x H',Inv X pins σ H' s2/\yn x u/\J.yld i H x H'/\tn (i+1) s2.heap/\∀ b∈fp,H' b=none) E s1) E s
 done:∀ (X:Cx),X.prog=P->X.w=w->X.K=K->X.calm=true->∀ (i:Nat) (pins:PNt) (s:Shared) (σ:St) (H:Hp) (E:VSt),Inv X pins σ H s->(∀ b∈fp,FpOk X pins H b)->tn i s.heap->J.stop i H ->
  wpAny (model P w) X.A (pyNext (.ref it)) (λr s1=>r=none/\Inv X pins σ H s1) E s
 self:∀ (A:Around) (i:Nat) (s:Shared) (Q:VSt) (E:VSt),tn i s.heap->Q (.ref it) s->wpAny (model P w) A (pyIter (.ref it)) Q E s
abbrev TI:=St->Hp->(It->Hp->Prop)->Prop
def PIE (X:Cx) (pins:PNt) (σ:St) (tg:Expr) (R:It->Hp->Prop) (itv:Value) (s2:Shared):Prop:=
 ∃ (it:Addr) (fp:List Addr) (tn:Nat->Heap->Prop) (J:It) (H':Hp),itv = .ref it/\Inv X pins σ H' s2/\zQo X.prog X.w X.K tg J fp it tn/\tn 0 s2.heap/\(∀ b∈fp,FpOk X pins H' b)/\R J H'
def PI (X:Cx) (tg iter:Expr) (wi:TI):Prop:=
 ∀ (pins:PNt) (s:Shared) (σ:St) (H:Hp) (R:It->Hp->Prop),Inv X pins σ H s->wi σ H R ->
  wpAny (model X.prog X.w) X.A (eval iter X.env) (λv s1=>wpAny (model X.prog X.w) X.A (pyIter v) (PIE X pins σ tg R) X.xe s1) X.xe s
theorem zQp {M:Model} {A:Around} {E:VSt} {s:Shared} {tg:Expr} {it:Addr} {u:Value} {o:Obj} {n:String} {vs:Array Value} {Q:Unit->Shared->Prop} (ho:s.heap.get? it=some o) (hc:o.cls = .type n) (hd:o.data = .fields vs)
  (hn : ["enumerate","zip","dict_itemiterator","dict_reverseitemiterator","odict_iterator","itertools.zip_longest","itertools.pairwise"].contains n=false) (hQ:Q () s):wpAny M A (letOwnedTupleGo tg (.ref it) u) Q E s:=by
 unfold letOwnedTupleGo
 cases tg<;>first
  |exact zU6 hQ
  |(cases u<;>first
    |exact zU6 hQ
    |(refine zUz (wpAny_load ho ?_)
      rw [hc,hd]
      show wpAny M A (if (["enumerate","zip","dict_itemiterator","dict_reverseitemiterator","odict_iterator","itertools.zip_longest","itertools.pairwise"].contains n && vs[0]? == some (rawInt _))=true then _ else _) Q E s
      rw [zVe (by intro h;rw [hn,Bool.false_and] at h;cases h)]
      exact zU6 hQ))
def Itl (K:Fg) (a:Addr):It:=
 ⟨λi H=>∃ xs x,SqL K H a xs/\xs[i]?=some x,λi H x H'=>H'=H/\∀ xs,SqL K H a xs->xs[i]?=some x,λi H=>∃ xs,SqL K H a xs/\xs.length<=i⟩
def Itt (K:Fg) (a:Addr):It:=
 ⟨λi H=>∃ xs x,SqT K H a xs/\xs[i]?=some x,λi H x H'=>H'=H/\∀ xs,SqT K H a xs->xs[i]?=some x,λi H=>∃ xs,SqT K H a xs/\xs.length<=i⟩
def Itr (lo:Int) (n:Nat):It:=⟨λi _=>i<n,λi H x H'=>H'=H/\x = .int (lo+i),λi _=>n<=i⟩
theorem zLU {P:Program} {w:World} {K:Fg} {tg:Expr} (a it:Addr):zQo P w K tg (Itl K a) [it] it (λi h=>h.IsListIter it a i) where
 mem:=by simp
 obj:=λi h st b hb=>by
  have e:b=it:=by simpa using hb
  subst e
  obtain ⟨o,e,c,d⟩:=st
  exact ⟨o,e,λv z=>by rw [d] at z;cases z⟩
 keep:=λi h h' st k=>st.at λo e=>k it (by simp) o e
 item:=by
  intro X hP hw hK hc i pins s σ H E I hf st hg
  subst hP hw hK
  obtain ⟨xs,x,hq,hx⟩:=hg
  obtain ⟨its,rv,p,hz⟩:=I.list hq
  obtain ⟨u,hu,ru⟩:=rv.get hx
  obtain ⟨f0,f1,f2,f3,f4,f5⟩:=hf it (by simp)
  refine wpAny_pyNext_list_item st p.isList (x:=u) (by simpa using hu) λh' st' sb=>?_
  have I1:Inv X pins σ H { s with heap:=h' }:=I.turned (t':=s.toks) (λb o hb e=>(sb.2 b hb).trans e) f0 f1 f3 f4 f5
  obtain ⟨o,e,c,d⟩:=id st'
  exact ⟨u,rfl,zQp (s:={ s with heap:=h' }) e c d (by decide) ⟨x,H,I1,ru,⟨rfl,λys hy=>by rw [I.list_inj hy hq];exact hx⟩,st',λb hb=>(hf b hb).1⟩⟩
 done:=by
  intro X hP hw hK hc i pins s σ H E I hf st hg
  subst hP hw hK
  obtain ⟨xs,hq,hx⟩:=hg
  obtain ⟨its,rv,p,hz⟩:=I.list hq
  obtain ⟨f0,f1,f2,f3,f4,f5⟩:=hf it (by simp)
  have hl:=rv.length
  exact wpAny_pyNext_list_end (I.ok.hd hc) st p.isList (by simp;omega) λh' eb=>⟨rfl,I.turned (t':=s.toks) (λb o hb e=>eb b o hb e) f0 f1 f3 f4 f5⟩
 self:=λ_ _ _ _ _ st h=>wpAny_pyIter_listiter st h
theorem zKY {P:Program} {w:World} {K:Fg} {tg:Expr} (a it:Addr):zQo P w K tg (Itt K a) [it] it (λi h=>h.IsTupleIter it a i) where
 mem:=by simp
 obj:=λi h st b hb=>by
  have e:b=it:=by simpa using hb
  subst e
  obtain ⟨o,e,c,d⟩:=st
  exact ⟨o,e,λv z=>by rw [d] at z;cases z⟩
 keep:=λi h h' st k=>st.at λo e=>k it (by simp) o e
 item:=by
  intro X hP hw hK hc i pins s σ H E I hf st hg
  subst hP hw hK
  obtain ⟨xs,x,hq,hx⟩:=hg
  obtain ⟨its,rv,p,hz⟩:=I.tuple hq
  obtain ⟨u,hu,ru⟩:=rv.get hx
  obtain ⟨f0,f1,f2,f3,f4,f5⟩:=hf it (by simp)
  refine wpAny_pyNext_tuple_item st (show s.heap.IsTuple a its.toArray from p) (x:=u) (by simpa using hu) λh' st' sb=>?_
  have I1:Inv X pins σ H { s with heap:=h' }:=I.turned (t':=s.toks) (λb o hb e=>(sb.2 b hb).trans e) f0 f1 f3 f4 f5
  obtain ⟨o,e,c,d⟩:=id st'
  exact ⟨u,rfl,zQp (s:={ s with heap:=h' }) e c d (by decide) ⟨x,H,I1,ru,⟨rfl,λys hy=>by rw [I.tuple_inj hy hq];exact hx⟩,st',λb hb=>(hf b hb).1⟩⟩
 done:=by
  intro X hP hw hK hc i pins s σ H E I hf st hg
  subst hP hw hK
  obtain ⟨xs,hq,hx⟩:=hg
  obtain ⟨its,rv,p,hz⟩:=I.tuple hq
  obtain ⟨f0,f1,f2,f3,f4,f5⟩:=hf it (by simp)
  have hl:=rv.length
  exact wpAny_pyNext_tuple_end (I.ok.hd hc) st (show s.heap.IsTuple a its.toArray from p) (by simp;omega) λh' eb=>⟨rfl,I.turned (t':=s.toks) (λb o hb e=>eb b o hb e) f0 f1 f3 f4 f5⟩
 self:=λ_ _ _ _ _ st h=>wpAny_pyIter_tupleiter st h
theorem zKZ {P:Program} {w:World} {K:Fg} {tg:Expr} (it:Addr) (lo:Int) (n:Nat):zQo P w K tg (Itr lo n) [it] it (λi h=>IsRangeIter h it (lo+(i:Nat)*1) ((n:Int)-(i:Nat)) 1) where
 mem:=by simp
 obj:=λi h st b hb=>by
  have e:b=it:=by simpa using hb
  subst e
  exact ⟨_,st,λv z=>by
   have z':Data.fields _=Data.cell v:=z
   cases z'⟩
 keep:=λi h h' st k=>k it (by simp) _ st
 item:=by
  intro X hP hw hK hc i pins s σ H E I hf st hg
  subst hP hw hK
  obtain ⟨f0,f1,f2,f3,f4,f5⟩:=hf it (by simp)
  have W:=Walks.range (prog:=X.prog) (w:=X.w) (I.ok.hd hc) it lo 1 n
  refine W.item i s _ _ hg st λv h' tk hv st' kk=>?_
  obtain ⟨t,rfl⟩:=hv
  have I1:Inv X pins σ H { s with heap:=h',toks:=tk }:=I.turned (λb o hb e=>kk b o (by simpa using hb) e) f0 f1 f3 f4 f5
  refine ⟨_,rfl,zQp (s:={ s with heap:=h',toks:=tk }) (n:="range_iterator") st' rfl rfl (by decide) ⟨.int (lo+i),H,I1,⟨t,?_⟩,⟨rfl,rfl⟩,st',λb hb=>(hf b hb).1⟩⟩
  rw [Int.mul_one]
 done:=by
  intro X hP hw hK hc i pins s σ H E I hf st hg
  subst hP hw hK
  obtain ⟨f0,f1,f2,f3,f4,f5⟩:=hf it (by simp)
  exact wpAny_pyNext_range_end (I.ok.hd hc) st (by have:n<=i:=hg;omega) λh' eb=>⟨rfl,I.turned (t':=s.toks) (λb o hb e=>eb b o hb e) f0 f1 f3 f4 f5⟩
 self:=λ_ _ _ _ _ st h=>wpAny_pyIter_rangeiter st h
end L2
namespace L2
open PySem PySem.Spec PyProof.Rows
section
variable {X:Cx} {tg:Expr}
def iList (K:Fg) (tl:TE):TI:=λσ H R=>tl σ H λx H1=>∃ a,x = .ref a/\(∃ xs,SqL K H1 a xs)/\R (Itl K a) H1
def iTup (K:Fg) (tl:TE):TI:=λσ H R=>tl σ H λx H1=>∃ a,x = .ref a/\(∃ xs,SqT K H1 a xs)/\R (Itt K a) H1
theorem zQq {l:Expr} {tl:TE} (hl:PE X l tl):PI X tg l (iList X.K tl):=by
 intro pins s σ H R I h
 refine thn (hl pins s σ H _ I h) λv s1 zz=>?_
 obtain ⟨x,H1,I1,r1,q1⟩:=zz
 obtain ⟨a,e,⟨xs,hq⟩,q⟩:=q1
 subst e
 cases r1
 obtain ⟨its,rv,p,hz⟩:=I1.list hq
 refine wpAny_pyIter_list p.isList ?_
 refine ⟨s1.heap.objs.size,[s1.heap.objs.size],_,_,H1,rfl,I1.kept (t':=s1.toks) λb o e=>zU5 _ e,zLU a _,⟨_,zVO _ rfl,rfl,rfl⟩,λb hb=>?_,q⟩
 have e:b=s1.heap.objs.size:=by simpa using hb
 subst e
 exact I1.fpOk (zVA _) (I1.hok.fresh (zVA _))
theorem zS9 {l:Expr} {tl:TE} (hl:PE X l tl):PI X tg l (iTup X.K tl):=by
 intro pins s σ H R I h
 refine thn (hl pins s σ H _ I h) λv s1 zz=>?_
 obtain ⟨x,H1,I1,r1,q1⟩:=zz
 obtain ⟨a,e,⟨xs,hq⟩,q⟩:=q1
 subst e
 cases r1
 obtain ⟨its,rv,p,hz⟩:=I1.tuple hq
 refine wpAny_pyIter_tuple (show s1.heap.IsTuple a its.toArray from p) ?_
 refine ⟨s1.heap.objs.size,[s1.heap.objs.size],_,_,H1,rfl,I1.kept (t':=s1.toks) λb o e=>zU5 _ e,zKY a _,⟨_,zVO _ rfl,rfl,rfl⟩,λb hb=>?_,q⟩
 have e:b=s1.heap.objs.size:=by simpa using hb
 subst e
 exact I1.fpOk (zVA _) (I1.hok.fresh (zVA _))
theorem zJY {pins:PNt} {σ:St} {H:Hp} {s:Shared} {R:It->Hp->Prop} {E:VSt} {lo hi:Int} {t u v:Tok} {tk:Nat} (I:Inv X pins σ H s) (h1 : -(2 ^ 62)<=lo) (h2:lo<2 ^ 62) (h3 : -(2 ^ 62)<=hi) (h4:hi<2 ^ 62)
  (q:R (Itr lo (hi-lo).toNat) H):wpAny (model X.prog X.w) X.A (pyIter (.ref s.heap.objs.size)) (PIE X pins σ tg R) E { s with heap:=s.heap.push { cls:=.type "range",data:=.fields #[.int lo t,.int hi u,.int 1 v] },toks:=tk }:=by
 refine wpAny_pyIter_range (IsRange.new ..) (small_one h1 h2 h3 h4) ?_
 have I1:Inv X pins σ H { s with heap:=s.heap.push { cls:=.type "range",data:=.fields #[.int lo t,.int hi u,.int 1 v] },toks:=tk }:=I.kept λb o e=>zU5 _ e
 refine ⟨(s.heap.push { cls:=.type "range",data:=.fields #[.int lo t,.int hi u,.int 1 v] }).objs.size,[(s.heap.push { cls:=.type "range",data:=.fields #[.int lo t,.int hi u,.int 1 v] }).objs.size],_,_,H,rfl,
  I1.kept (t':=tk) λb o e=>zU5 _ e,zKZ _ lo (hi-lo).toNat,?_,λb hb=>?_,q⟩
 ·have e1:lo+((0:Nat):Int)*1=lo:=by simp
  have e2:(((hi-lo).toNat:Nat):Int)-((0:Nat):Int)=Builtin.Range.rangeSize lo hi 1:=by rw [rangeSize_one];split<;>omega
  show IsRangeIter _ _ (lo+((0:Nat):Int)*1) ((((hi-lo).toNat:Nat):Int)-((0:Nat):Int)) 1
  rw [e1,e2]
  exact zVO _ rfl
 ·have e:b=(s.heap.push { cls:=.type "range",data:=.fields #[.int lo t,.int hi u,.int 1 v] }).objs.size:=by simpa using hb
  subst e
  exact I1.fpOk (zVA _) (I1.hok.fresh (zVA _))
def iRng1 (ta:TA):TI:=λσ H R=>ta σ H λvs H1=>∃ j:Int,vs = [.int j]/\-(2 ^ 62)<=j/\j<2 ^ 62/\R (Itr 0 j.toNat) H1
def iRng2 (ta:TA):TI:=λσ H R=>ta σ H λvs H1=>∃ i j:Int,vs = [.int i,.int j]/\(-(2 ^ 62)<=i/\i<2 ^ 62/\-(2 ^ 62)<=j/\j<2 ^ 62)/\R (Itr i (j-i).toNat) H1
theorem zLV {a:Expr} {ta:TA} {p pos:Pos} (hg:Gl X "range") (hm:X.mg "range" = none) (ha:PA X [a] ta) (hs:starEach [a] X.env = [(false,eval a X.env)]:=by rfl):PI X tg (.Call (.Name "range" p) [a] [] pos) (iRng1 ta):=by
 intro pins s σ H R I h
 refine Call_ (zFg I hg hm boot_range (zWL (thn (ha pos pins s σ H _ I h) λus s1 ⟨vs,H1,I1,r1,q1⟩=>?_) hs rfl))
 obtain ⟨j,e,q1,q2,q⟩:=q1
 subst e
 cases r1 with
 |cons r rr=>
  cases rr
  obtain ⟨t,rfl⟩:=r
  exact call_range_1 (zJY I1 (by omega) (by omega) q1 q2 (by simpa using q))
theorem zLW {a b:Expr} {ta:TA} {p pos:Pos} (hg:Gl X "range") (hm:X.mg "range" = none) (ha:PA X [a,b] ta) (hs:starEach [a,b] X.env = [(false,eval a X.env),(false,eval b X.env)]:=by rfl) (hs2:starEach [b] X.env = [(false,eval b X.env)]:=by rfl) :
  PI X tg (.Call (.Name "range" p) [a,b] [] pos) (iRng2 ta):=by
 intro pins s σ H R I h
 refine Call_ (zFg I hg hm boot_range (zWL (thn (ha pos pins s σ H _ I h) λus s1 ⟨vs,H1,I1,r1,q1⟩=>?_) (by rw [hs,hs2]) (by rw [hs2];rfl)))
 obtain ⟨i,j,e,⟨q1,q2,q3,q4⟩,q⟩:=q1
 subst e
 cases r1 with
 |cons r rr=>
  cases rr with
  |cons r' rr=>
   cases rr
   obtain ⟨t,rfl⟩:=r
   obtain ⟨t',rfl⟩:=r'
   exact call_range_2 (zJY I1 q1 q2 q3 q4 q)
def tFor (wi:TI) (g:TG) (tb:TS):TS:=λD σ H=>wi σ H λJ H1=>∃ W:Nat->Nat->St->Hp->Prop,(∃ m,W 0 m σ H1)/\∀ i m σ H,W i m σ H ->
 (J.stop i H/\D.nx σ H)\/(J.go i H/\∃ N:St->Hp->Prop,(∀ σ' H',N σ' H'->∃ m',m' < m/\W (i+1) m' σ' H')/\∀ x H',J.yld i H x H'->g x σ H' λσ2 H2=>tb { D with nx:=N,ct:=N,bk:=D.nx } σ2 H2)
def zHJ (fp:List Addr) (h:Heap):PNt:=fp.filterMap λb=>(h.get? b).map λo=>(b,o)
theorem zCC {fp:List Addr} {h:Heap} {b:Addr} {o:Obj} (hb:b∈fp) (e:h.get? b=some o):(b,o)∈zHJ fp h:=zVR.mpr ⟨b,hb,by rw [e];rfl⟩
theorem zLX {fp:List Addr} {h:Heap} {p:Addr×Obj} (hp:p∈zHJ fp h):p.1∈fp/\h.get? p.1=some p.2:=by
 obtain ⟨b,hb,e⟩:=zVR.mp hp
 cases q:h.get? b with
 |none=>rw [q] at e;cases e
 |some o=>
  rw [q] at e
  have e':(b,o)=p:=zVs e
  subst e'
  exact ⟨hb,q⟩
theorem Inv.pinned {pins:PNt} {σ:St} {H:Hp} {s:Shared} {fp:List Addr} (I:Inv X pins σ H s) (hf:∀ b∈fp,FpOk X pins H b) (ho:∀ b∈fp,∃ o,s.heap.get? b=some o/\∀ v,o.data≠.cell v):Inv X (pins++zHJ fp s.heap) σ H s:=
 I.pins_of λp hp=>(zU2.mp hp).elim (λz=>I.pin p (zVD _ z)) λz=>by
  obtain ⟨hb,e⟩:=zLX z
  obtain ⟨f0,f1,f2,_⟩:=hf p.1 hb
  obtain ⟨o,e',d⟩:=ho p.1 hb
  rw [e] at e';cases e'
  exact ⟨e,f0,f1,f2,d⟩
theorem Inv.unpinned {pins pl:PNt} {σ:St} {H:Hp} {s:Shared} (I:Inv X (pins++pl) σ H s):Inv X pins σ H s:=I.pins_of λp hp=>I.pin p (zVD _ (zVi _ hp))
theorem zTA {iter:Expr} {body:List Stmt} {wi:TI} {g:TG} {tb:TS} {pos:Pos} (hp:PassesOwn (model X.prog X.w) X.A X.env X.xe) (hc:X.calm=true) (hi:PI X tg iter wi) (hg:PG X tg g) (hb:PSs X body tb)
  (hs:∀ x,foldedSetIterable iter X.env x=pure x:=by intro _;rfl):PS X (.For tg iter body [] pos) (tFor wi g tb):=by
 intro pins s σ H D I h
 refine wpAny_For (thn (hi pins s σ H _ I h) λv s1 h1=>thn h1 λitv s2 h2=>?_) hs
 obtain ⟨it,fp,tn,J,H2,e,I2,T,st2,f2,W,⟨m0,w0⟩,turn⟩:=h2
 subst e
 -- what stays true of the iterator's objects through the loop
 have stat:∀ {H':Hp},(∀ b∈fp,H' b=none)->∀ b∈fp,FpOk X pins H' b:=λhn b hb=>⟨hn b hb,(f2 b hb).2⟩
 refine codeAny_forLoop_any (λn s'=>∃ i σ' H',Inv X pins σ' H' s'/\tn i s'.heap/\(∀ b∈fp,H' b=none)/\W i n σ' H') ?_ m0 ⟨0,σ,H2,I2,st2,λb hb=>(f2 b hb).1,w0⟩
 rintro n s3 ⟨i,σ3,H3,I3,st3,fr3,w3⟩
 rcases turn i n σ3 H3 w3 with ⟨stop,qn⟩|⟨go,N,hN,step⟩
 ·refine zWY hp (thn (T.done X rfl rfl rfl hc i pins s3 σ3 H3 X.xe I3 (stat fr3) st3 stop) λr s4 zz=>?_)
  obtain ⟨hr,I4⟩:=zz
  subst hr
  exact zWi ⟨σ3,H3,I4,qn⟩
 ·refine zWY hp (thn (T.item X rfl rfl rfl hc i pins s3 σ3 H3 X.xe I3 (stat fr3) st3 go) λr s4 zz=>?_)
  obtain ⟨u,hr,h4⟩:=zz
  subst hr
  refine zWY hp (thn h4 λ_ s5 zz=>?_)
  obtain ⟨x,H5,I5,r5,y5,st5,fr5⟩:=zz
  have I5':=I5.pinned (stat fr5) (T.obj _ _ st5)
  refine zWY hp (thn (hg _ s5 σ3 H5 x u _ I5' r5 (step x H5 y5)) λ_ s6 zz=>?_)
  obtain ⟨σ6,H6,I6,q6⟩:=zz
  refine zWY hp (thn (hb _ s6 σ6 H6 _ I6 q6) λf s7 q7=>?_)
  have again:∀ {σ7:St} {H7:Hp},Inv X (pins++zHJ fp s5.heap) σ7 H7 s7->N σ7 H7->∃ m,m<n/\∃ i σ' H',Inv X pins σ' H' s7/\tn i s7.heap/\(∀ b∈fp,H' b=none)/\W i m σ' H':=λ{σ7 H7} I7 n7=>by
   obtain ⟨m',hm,w7⟩:=hN σ7 H7 n7
   refine ⟨m',hm,i+1,σ7,H7,I7.unpinned,T.keep _ _ _ st5 λb hb o e=>(I7.pin (b,o) (zVD _ (zVD _ (zCC hb e)))).1,λb hb=>?_,w7⟩
   obtain ⟨o,e,d⟩:=T.obj _ _ st5 b hb
   exact (I7.pin (b,o) (zVD _ (zVD _ (zCC hb e)))).2.1
  cases f with
  |next=>obtain ⟨σ7,H7,I7,n7⟩:=q7;exact again I7 n7
  |cont=>obtain ⟨σ7,H7,I7,n7⟩:=q7;exact again I7 n7
  |brk=>obtain ⟨σ7,H7,I7,q7⟩:=q7;exact ⟨σ7,H7,I7.unpinned,q7⟩
  |ret v=>obtain ⟨x7,σ7,H7,I7,r7,q7⟩:=q7;exact ⟨x7,σ7,H7,I7.unpinned,r7,q7⟩
end
end L2
namespace L2
open PySem PySem.Spec PyProof.Rows
abbrev R2:=V->V->Hp->VK->Prop
def OpR (X:Cx) (f:Value->Value->Sem Value) (r:R2):Prop:=
 ∀ (pins:PNt) (s:Shared) (σ:St) (H:Hp) (x y:V) (v u:Value) (Q:VK),Inv X pins σ H s->yn x v->yn y u->r x y H Q ->
  wpAny (model X.prog X.w) X.A (f v u) (EP X pins σ Q) X.xe s
def UnR (X:Cx) (f:Value->Sem Value) (r:V->Hp->VK->Prop):Prop:=
 ∀ (pins:PNt) (s:Shared) (σ:St) (H:Hp) (x:V) (v:Value) (Q:VK),Inv X pins σ H s->yn x v->r x H Q ->
  wpAny (model X.prog X.w) X.A (f v) (EP X pins σ Q) X.xe s
def zAl (X:Cx) (f:Value) (r:List V->Hp->VK->Prop):Prop:=
 ∀ (pins:PNt) (s:Shared) (σ:St) (H:Hp) (xs:List V) (us:List Value) (Q:VK),Inv X pins σ H s->yN xs us->r xs H Q ->
  wpAny (model X.prog X.w) X.A (call f us) (EP X pins σ Q) X.xe s
def TruR (X:Cx) (r:V->Hp->(Bool->Hp->Prop)->Prop):Prop:=
 ∀ (pins:PNt) (s:Shared) (σ:St) (H:Hp) (x:V) (v:Value) (Q:Bool->Hp->Prop),Inv X pins σ H s->yn x v->r x H Q ->
  wpAny (model X.prog X.w) X.A (truthy v) (TP X pins σ Q) X.xe s
def tOp (r:R2) (ta tb:TE):TE:=λσ H Q=>ta σ H λx H1=>tb σ H1 λy H2=>r x y H2 Q
def tUn (r:V->Hp->VK->Prop) (ta:TE):TE:=λσ H Q=>ta σ H λx H1=>r x H1 Q
def rI (C:Int->Int->Prop) (g:Int->Int->V):R2:=λx y H Q=>∃ i j,x = .int i/\y = .int j/\C i j/\Q (g i j) H
def rI0 (g:Int->Int->V):R2:=λx y H Q=>∃ i j,x = .int i/\y = .int j/\Q (g i j) H
def rU (g:Int->V):V->Hp->VK->Prop:=λx H Q=>∃ i,x = .int i/\Q (g i) H
section
variable {X:Cx} {a b c:Expr} {ta tb tc:TE} {pos:Pos}
theorem binT (ha:PE X a ta) (hb:PE X b tb) {pins:PNt} {s:Shared} {σ:St} {H:Hp} {R:V->V->Hp->Prop} (I:Inv X pins σ H s)
  (h:ta σ H λx H1=>tb σ H1 λy H2=>R x y H2) {Q:VSt} {f:Value->Value->Sem Value}
  (hf:∀ v u s2 x y H2,Inv X pins σ H2 s2->yn x v->yn y u->R x y H2->wpAny (model X.prog X.w) X.A (f v u) Q X.xe s2) :
  wpAny (model X.prog X.w) X.A (eval a X.env) (λv s₁=>wpAny (model X.prog X.w) X.A (eval b X.env) (λu s₂=>wpAny (model X.prog X.w) X.A (f v u) Q X.xe s₂) X.xe s₁) X.xe s:=by
 refine thn (ha pins s σ H _ I h) λv s1 zz=>?_
 obtain ⟨x,H1,I1,r1,q1⟩:=zz
 refine thn (hb pins s1 σ H1 _ I1 q1) λu s2 zz=>?_
 obtain ⟨y,H2,I2,r2,q2⟩:=zz
 exact hf v u s2 x y H2 I2 r1 r2 q2
theorem zTB {op:Operator} {r:R2} (ho:OpR X (binaryOp op) r) (ha:PE X a ta) (hb:PE X b tb):PE X (.BinOp a op b pos) (tOp r ta tb):=by
 intro pins s σ H Q I h
 exact wpAny_BinOp (binT ha hb I h λv u s2 x y H2 I2 rx ry q=>ho pins s2 σ H2 x y v u Q I2 rx ry q)
theorem pe_un {op:UnaryOp} {r:V->Hp->VK->Prop} (ho:UnR X (unaryOp op) r) (ha:PE X a ta):PE X (.UnaryOp op a pos) (tUn r ta):=by
 intro pins s σ H Q I h
 exact UnaryOp_ (thn (ha pins s σ H _ I h) λv s1 ⟨x,H1,I1,r1,q1⟩=>ho pins s1 σ H1 x v Q I1 r1 q1)
theorem opI {f:Value->Value->Sem Value} {C:Int->Int->Prop} {g:Int->Int->Int}
  (rule:∀ (i j:Int) (t u:Tok) (s:Shared) (Q:VSt) (E:VSt),C i j->Q (.int (g i j) s.toks) { s with toks:=s.toks+1 }->wpAny (model X.prog X.w) X.A (f (.int i t) (.int j u)) Q E s) :
  OpR X f (rI C λi j=>.int (g i j)):=by
 intro pins s σ H x y v u Q I rx ry h
 obtain ⟨i,j,rfl,rfl,hc,q⟩:=h
 obtain ⟨t,rfl⟩:=rx
 obtain ⟨t',rfl⟩:=ry
 exact rule i j t t' s _ _ hc ⟨.int (g i j),H,I.tok _,⟨_,rfl⟩,q⟩
theorem opI0 {f:Value->Value->Sem Value} {g:Int->Int->Int}
  (rule:∀ (i j:Int) (t u:Tok) (s:Shared) (Q:VSt) (E:VSt),Q (.int (g i j) s.toks) { s with toks:=s.toks+1 }->wpAny (model X.prog X.w) X.A (f (.int i t) (.int j u)) Q E s) :
  OpR X f (rI0 λi j=>.int (g i j)):=by
 intro pins s σ H x y v u Q I rx ry h
 obtain ⟨i,j,rfl,rfl,q⟩:=h
 obtain ⟨t,rfl⟩:=rx
 obtain ⟨t',rfl⟩:=ry
 exact rule i j t t' s _ _ ⟨.int (g i j),H,I.tok _,⟨_,rfl⟩,q⟩
def CDiv (i j:Int):Prop:=0<j/\j<1073741824
def CMul (i j:Int):Prop:=(-(2 ^ 64)<i/\i<2 ^ 64)\/(-(2 ^ 64)<j/\j<2 ^ 64)
theorem CMul.ok {i j:Int} (h:CMul i j):IntMulOk i j:=by
 rcases h with ⟨h1,h2⟩|⟨h1,h2⟩
 ·exact .of_left (intBits_le_64 h1 h2)
 ·exact .of_right (intBits_le_64 h1 h2)
theorem zTC:OpR X (binaryOp .Sub) (rI0 λi j=>.int (i-j)):=opI0 λ_ _ _ _ _ _ _ q=>sub_int q
theorem zTD:OpR X (binaryOp .Mult) (rI CMul λi j=>.int (i*j)):=opI λ_ _ _ _ _ _ _ hc q=>mul_int q hc.ok
theorem zQr:OpR X (binaryOp .FloorDiv) (rI CDiv λi j=>.int (i/j)):=opI λi j _ _ _ _ _ hc q=>by
 have h1:(0:Int)<j:=hc.1
 have h2:j<1073741824:=hc.2
 exact floordiv_int (by omega) (by rw [Int.fdiv_eq_ediv_of_nonneg i (by omega)];exact q) (.inl (PyProof.noPylong_small (by omega)))
theorem zTE:OpR X (binaryOp .Mod) (rI (λ_ j=>0<j) λi j=>.int (i%j)):=opI λi j _ _ _ _ _ hc q=>by
 have h1:(0:Int)<j:=hc
 exact mod_int' (by omega) (by rw [Int.fmod_eq_emod_of_nonneg i (by omega)];exact q)
theorem unI {f:Value->Sem Value} {g:Int->Int}
  (rule:∀ (i:Int) (t:Tok) (s:Shared) (Q:VSt) (E:VSt),Q (.int (g i) s.toks) { s with toks:=s.toks+1 }->wpAny (model X.prog X.w) X.A (f (.int i t)) Q E s) :
  UnR X f (rU λi=>.int (g i)):=by
 intro pins s σ H x v Q I rx h
 obtain ⟨i,rfl,q⟩:=h
 obtain ⟨t,rfl⟩:=rx
 exact rule i t s _ _ ⟨.int (g i),H,I.tok _,⟨_,rfl⟩,q⟩
theorem zTF:UnR X (unaryOp .USub) (rU λi=>.int (-i)):=unI λ_ _ _ _ _ q=>neg_int q
end
section
variable {X:Cx} {a b c:Expr} {ta tb tc:TE} {pos:Pos}
theorem zCP {pins:PNt} {σ:St} {H:Hp} {s:Shared} {Q:VK} {k k':Bool} (I:Inv X pins σ H s) (q:Q (.bl k) H) (e:k=k'):EP X pins σ Q (.bool k') s:=by
 subst e
 exact ⟨.bl k,H,I,rfl,q⟩
theorem zTG:OpR X (compareOp .Is) (λx y H Q=>y = .non/\Q (.bl (decide (x = .non))) H):=by
 intro pins s σ H x y v u Q I rx ry h
 obtain ⟨rfl,q⟩:=h
 cases ry
 refine is_none_gen (zCP I q ?_)
 cases x<;>first
  |(cases rx;rfl)
  |(obtain ⟨t,rfl⟩:=rx;rfl)
theorem zr (b:Expr) {op:CmpOp} (h:op≠.In:=by decide) (h2:op≠.NotIn:=by decide):behindInMarks op b=false:=by
 have e1:(op == CmpOp.In)=false:=by cases op<;>first|rfl|exact absurd rfl h
 have e2:(op == CmpOp.NotIn)=false:=by cases op<;>first|rfl|exact absurd rfl h2
 cases b<;>simp [behindInMarks,e1,e2]
theorem zLY {op:CmpOp} {r:R2} (ho:OpR X (compareOp op) r) (ha:PE X a ta) (hb:PE X b tb) (hm:behindInMarks op b=false):PE X (.Compare a [op] [b] pos) (tOp r ta tb):=by
 intro pins s σ H Q I h
 exact wpAny_Compare1 (binT ha hb I h λv u s2 x y H2 I2 rx ry q=>ho pins s2 σ H2 x y v u Q I2 rx ry q) hm
def tTest (t:TE):TT:=λσ H Q=>t σ H λx H'=>∃ k,x = .bl k/\Q k H'
theorem zGO {op:CmpOp} {r:R2} (ho:OpR X (compareOp op) r) (ha:PE X a ta) (hb:PE X b tb) (hm:behindInMarks op b=false):PT X (.Compare a [op] [b] pos) (tTest (tOp r ta tb)):=by
 intro pins s σ H Q I h
 refine wpAny_isTrue_Compare1 (thn (ha pins s σ H _ I h) λv s1 ⟨x,H1,I1,r1,q1⟩=>thn (hb pins s1 σ H1 _ I1 q1) λu s2 ⟨y,H2,I2,r2,q2⟩=>
  thn (ho pins s2 σ H2 x y v u _ I2 r1 r2 q2) λc s3 ⟨z,H3,I3,r3,k,e,q3⟩=>?_) hm
 subst e
 cases r3
 exact zWJ ⟨H3,I3,q3⟩
def TruV (K:Fg) (x:V) (H:Hp) (k:Bool):Prop:=
 match x with
 |.non=>k=false
 |.bl b=>k=b
 |.int i=>k=(i != 0)
 |.str y=>y.length<=sizeLine/\k=((y.length:Int) != 0)
 |.byt y=>y.size<=sizeLine/\k=((y.size:Int) != 0)
 |.ref p=>(∃ xs,SqL K H p xs/\k = !xs.isEmpty)\/(∃ xs,SqT K H p xs/\k = !xs.isEmpty)\/∃ kvs,H p=some (.dK kvs)/\k = !kvs.isEmpty
 |_=>False
theorem zKa {κ:Type} {kvs:List (κ×V)} {vs:List (κ×Value)} (r:KV kvs vs):(!vs.isEmpty) = !kvs.isEmpty:=by
 cases r<;>rfl
theorem zFi {xs:List V} {its:List Value} (r:yN xs its):(!its.toArray.isEmpty) = !xs.isEmpty:=by
 cases r<;>simp
theorem zET:(sizeLine:Nat)<2 ^ 63:=by rw [zWZ];decide
theorem zTH:TruR X (λx H Q=>∃ k,TruV X.K x H k/\Q k H):=by
 intro pins s σ H x v Q I rx h
 obtain ⟨k,e,q⟩:=h
 have hl:=zET
 have hs:sizeLine=16777216:=zWZ
 cases x with
 |non=>
  cases rx
  have e':k=false:=e
  subst e'
  exact truthy_none ⟨H,I,q⟩
 |bl b=>
  cases rx
  have e':k=b:=e
  subst e'
  exact zWJ ⟨H,I,q⟩
 |int i=>
  obtain ⟨t,rfl⟩:=rx
  have e':k=(i != 0):=e
  subst e'
  exact PySem.P.truthy_int ⟨H,I,q⟩
 |str y=>
  obtain ⟨t,rfl⟩:=rx
  obtain ⟨hy,e'⟩:y.length<=sizeLine/\k=((y.length:Int) != 0):=e
  subst e'
  exact PySem.P.truthy_str (by omega) ⟨H,I.tok _,q⟩
 |byt y=>
  obtain ⟨t,rfl⟩:=rx
  obtain ⟨hy,e'⟩:y.size<=sizeLine/\k=((y.size:Int) != 0):=e
  subst e'
  exact PySem.W.truthy_bytes (by omega) ⟨H,I.tok _,q⟩
 |ref p=>
  cases rx
  have e':(∃ xs,SqL X.K H p xs/\k = !xs.isEmpty)\/(∃ xs,SqT X.K H p xs/\k = !xs.isEmpty)\/∃ kvs,H p=some (.dK kvs)/\k = !kvs.isEmpty:=e
  rcases e' with ⟨xs,hx,e'⟩|⟨xs,hx,e'⟩|⟨kvs,hx,e'⟩
  ·subst e'
   obtain ⟨its,r,pl,hz⟩:=I.list hx
   have hlen:=r.length
   exact wpAny_truthy_list pl.isList (by simp only [zU3];omega) ⟨H,I.tok _,by rw [zFi r];exact q⟩
  ·subst e'
   obtain ⟨its,r,pl,hz⟩:=I.tuple hx
   have hlen:=r.length
   exact truthy_tuple pl (by simp only [zU3];omega) ⟨H,I.tok _,by rw [zFi r];exact q⟩
  ·subst e'
   obtain ⟨hz,hS,vs,r,m⟩:kvs.length<=sizeLine/\(p == sysModules)=false/\∃ vs,KV kvs vs/\s.heap.DictOf (z6 X.prog X.w) p vs:=I.hok p _ hx
   have hlen:kvs.length=vs.length:=zWl r
   exact wpAny_truthy_dict hS m (by omega) ⟨H,I.tok _,by rw [zKa r];exact q⟩
 |_=>exact (show False from e).elim
theorem zJZ (ha:PE X a ta) (he:∀ whole,isTrue a X.env whole=(do let v <- whole;standAt a.pos;holding [v] (truthy v))) :
  PT X a (λσ H Q=>ta σ H λx H'=>∃ k,TruV X.K x H' k/\Q k H'):=by
 intro pins s σ H Q I h
 exact isTrue_plain (thn (ha pins s σ H _ I h) λv s1 ⟨x,H1,I1,r1,q1⟩=>zTH pins s1 σ H1 x v Q I1 r1 q1) (he _)
theorem zKb:OpR X (binaryOp .Add) (λx y H Q=>∃ i j,x = .str i/\y = .str j/\i.length+j.length<=sizeLine/\Q (.str (i++j)) H):=by
 intro pins s σ H x y v u Q I rx ry h
 obtain ⟨i,j,rfl,rfl,hz,q⟩:=h
 obtain ⟨t,rfl⟩:=rx
 obtain ⟨t',rfl⟩:=ry
 exact add_str (λt' tk=>⟨.str (i++j),H,I.tok _,⟨_,rfl⟩,q⟩) hz
theorem zDT {x:V} {us:List Value} (r:yN [x] us):∃ u,us = [u]/\yn x u:=by
 cases r with
 |cons r1 r2=>cases r2;exact ⟨_,rfl,r1⟩
theorem zTI {x y:V} {us:List Value} (r:yN [x,y] us):∃ u w',us = [u,w']/\yn x u/\yn y w':=by
 cases r with
 |cons r1 r2=>
  cases r2 with
  |cons r3 r4=>cases r4;exact ⟨_,_,rfl,r1,r3⟩
theorem zHK:zAl X (.type "int") (λxs H Q=>(∃ i,xs = [.int i]/\Q (.int i) H)\/∃ k,xs = [.bl k]/\Q (.int (if k then 1 else 0)) H):=by
 intro pins s σ H xs us Q I r h
 rcases h with ⟨i,rfl,q⟩|⟨k,rfl,q⟩
 ·obtain ⟨u,rfl,t,rfl⟩:=zDT r
  exact call_int_int ⟨.int i,H,I,⟨_,rfl⟩,q⟩
 ·obtain ⟨u,rfl,r1⟩:=zDT r
  cases r1
  exact call_int_bool ⟨.int (if k then 1 else 0),H,I.tok _,⟨_,rfl⟩,q⟩
end
end L2
namespace L2
open PySem PySem.Spec PyProof.Rows
structure zQs (h:Heap) (x dx C:Addr) (mA:MGt):Prop where
 obj:h.get? x=some (PySem.W.instObj C dx)
 ns:h.Ns1 dx mA
 ne:dx≠x
theorem zLZ {h:Heap} {dx:Addr} {mA:MGt} (n:h.Ns1 dx mA):∃ od,h.get? dx=some od/\∀ name,PySem.W.lookIn name od=some (mA name):=by
 obtain ⟨o,es,ep,ho,hd,hk,_,hm⟩:=n
 refine ⟨o,ho,λname=>?_⟩
 have e:=hm name
 unfold nsFind findBy at e
 rw [<- Array.find?_toList] at e
 unfold PySem.W.lookIn
 rw [hd]
 dsimp only
 split
 ·rename_i y q
  rw [q] at e
  exact zVw some e
 ·rename_i q
  rw [q] at e
  have a:es.toList.any (·.refKey)=false:=by
   rw [List.any_eq_false]
   intro y hy
   obtain ⟨z,t,hkey⟩:=hk y (Array.mem_toList_iff.mp hy)
   simp [DictEntry.refKey,hkey]
  have a':¬ es.toList.any (·.refKey)=true:=by rw [a];exact zVV
  rw [zVe a']
  exact zVw some e
theorem zQs.look {h:Heap} {x dx C:Addr} {mA:MGt} (I:zQs h x dx C mA):∃ od,PySem.W.InstAt h x (PySem.W.instObj C dx) C (some od)/\∀ name,PySem.W.lookIn name od=some (mA name):=
 let ⟨od,ho,hl⟩:=zLZ I.ns
 ⟨od,⟨I.obj,rfl,rfl,ho⟩,hl⟩
section
variable {prog:Program} {w:World} {A:Around} {E:VSt} {s:Shared} {K:Fg} {x dx C f:Addr} {mA:MGt} {name:Str} {v:Value}
theorem zQt {expr:Bool} {Q:VSt} (X:K.In s.heap) (I:zQs s.heap x dx C mA) (hg:PySem.W.plainGet K C name=true) (hh:PySem.W.hasDictIn K C=true)
  (ha:PySem.W.findIn K (.ref C) name=some none) (hv:mA name=some v) (hv':PySem.W.handedIn v=true) (h:Q v { s with toks:=s.toks+1 }) :
  wpAny (model prog w) A (getAttr (.ref x) name expr) Q E s:=by
 obtain ⟨od,J,hl⟩:=I.look
 exact PySem.W.get_value X J (zXQ hg).1 (PySem.W.findObj_own hh ha rfl (by rw [hl,hv])) hv' h
theorem zN1 {pl:Sem Bool} {Q:Value×List Value->Shared->Prop} (X:K.In s.heap) (I:zQs s.heap x dx C mA) (hg:PySem.W.plainGet K C name=true)
  (hf:PySem.W.findIn K (.ref C) name=some (some (.ref f))) (ht:PySem.W.isFn K (.ref f)=true) (hv:mA name=none) (h:Q (.ref f,[.ref x]) s) :
  wpAny (model prog w) A (getMethod (.ref x) name pl) Q E s:=by
 obtain ⟨od,J,hl⟩:=I.look
 exact PySem.W.method_fn X J (zXQ hg).1 (zXQ hg).2 hf (zWm.mp ht) (by show (PySem.W.lookIn name od).map (·.isSome)=some false;rw [hl,hv];rfl) h
theorem zQu {ns:List Str} {Q:Unit->Shared->Prop} (X:K.In s.heap) (I:zQs s.heap x dx C mA)
  (hs:PySem.W.findIn K (.ref C) "__setattr__" = some (some (.builtin "object.__setattr__"))) (hp:PySem.W.plainOver K C=true) (ht:PySem.W.takerIn K C name=some none) (hh:PySem.W.hasDictIn K C=true)
  (hw:PySem.Within mA ns) (hsz:ns.length<=sizeLine)
  (h:∀ h',zQs h' x dx C (λy=>if y=name then some v else mA y)->Heap.SameBut dx s.heap h'->Q () { s with heap:=h',toks:=s.toks+2 }) :
  wpAny (model prog w) A (setAttr (.ref x) name v) Q E s:=by
 obtain ⟨od,J,hl⟩:=I.look
 refine PySem.W.set_plain X J hs (PySem.W.osa_open (s:={ s with toks:=s.toks+1 }) (r:=none) X J hp ht λb=>?_)
 obtain ⟨cd,hc,hd'⟩:=PySem.W.any_some hh
 have hx:s.heap.get? x=some ⟨.ref C,some dx,.plain,#[]⟩:=I.obj
 refine zUz (zU6 (zUz (zUz (wpAny_loadPart hx (zUz (PySem.W.Looks.here (s:={ s with toks:=s.toks+1 }) (PySem.W.looks_clsIn X hc) ?_))))))
 rw [hd']
 refine zU6 (a:=some dx) (zUz (zU6 (zUz ?_)))
 refine wpAny_nsSet1 (s:={ s with toks:=s.toks+1 }) I.ns λh' hn2 hs2=>?_
 obtain ⟨oD,esD,epD,hoD,hdD,hcD⟩:=hn2.count (PySem.Within.cons name v hw)
 refine zUz (wpAny_lookBehind hoD (by rw [hdD];exact pastItsLine_dict (zVb hcD (by rw [zUv];omega))) ?_)
 exact zU6 (h _ ⟨(hs2.2 _ (Ne.symm I.ne)).trans I.obj,hn2,I.ne⟩ hs2)
theorem zN2 {R:Result->Shared->Prop} {vs:List Value} {kw:List (Str×Value)} (X:K.In s.heap) (hm:PySem.W.makesIn K C=true)
  (hi:PySem.W.findIn K (.ref C) "__init__" = some (some (.ref f))) (hf:PySem.W.typeIn K (.ref f)=some (.type "function"))
  (h:codeAny (model prog w) (A.under (.builtin "type.__call__" ⟨.ref C::vs,kw⟩)) (.call (.ref f) ⟨.ref (s.heap.objs.size+1)::vs,kw⟩) (PySem.W.InitBack (s.heap.objs.size+1) R)
   { s with heap:=(s.heap.push PySem.W.emptyDict).push (PySem.W.instObj C s.heap.objs.size) }) :
  codeAny (model prog w) A (.call (.ref C) ⟨vs,kw⟩) R s:=by
 obtain ⟨hh,g,d,t,os⟩:=s
 exact PySem.W.make_core (PySem.W.makes_of X hm) (PySem.W.looks_findIn X hi) (λself=>PySem.W.bind_fn X self hf) (.inl rfl) h
end
def zCD (f:Str) (v:V):List (Str×V)->List (Str×V)
 | []=>[(f,v)]
 |(g,x)::r=>if g=f then (g,v)::r else (g,x)::zCD f v r
theorem zAI (f g:Str) (v:V):∀ fs:List (Str×V),(zCD f v fs).lookup g=if g=f then some v else fs.lookup g
 |[]=>by
  show List.lookup g [(f,v)]=_
  by_cases h:g=f
  ·have hb:(g == f)=true:=zWm.mpr h
   simp only [List.lookup,hb,zVE h]
  ·have hb:(g == f)=false:=zVd.mpr h
   simp only [List.lookup,hb,zVe h]
 |(k,x)::r=>by
  have ih:=zAI f g v r
  rw [show zCD f v ((k,x)::r)=(if k=f then (k,v)::r else (k,x)::zCD f v r) from rfl]
  by_cases hk:k=f
  ·rw [zVE hk]
   by_cases h:g=k
   ·have hb:(g == k)=true:=zWm.mpr h
    simp only [List.lookup,hb,zVE (h.trans hk)]
   ·have hb:(g == k)=false:=zVd.mpr h
    simp only [List.lookup,hb,zVe (λe:g=f=>h (e.trans hk.symm))]
  ·rw [zVe hk]
   by_cases h:g=k
   ·have hb:(g == k)=true:=zWm.mpr h
    simp only [List.lookup,hb,zVe (λe:g=f=>hk (h.symm.trans e))]
   ·have hb:(g == k)=false:=zVd.mpr h
    simp only [List.lookup,hb]
    exact ih
theorem zEU (f:Str) (v:V):∀ fs:List (Str×V),f∈(zCD f v fs).map (·.1)/\∀ g,g∈fs.map (·.1)->g∈(zCD f v fs).map (·.1)
 | []=>⟨by simp [zCD],λg h=>by simp at h⟩
 |(k,x)::r=>by
  obtain ⟨i1,i2⟩:=zEU f v r
  rw [show zCD f v ((k,x)::r)=(if k=f then (k,v)::r else (k,x)::zCD f v r) from rfl]
  by_cases hk:k=f
  ·rw [zVE hk]
   subst hk
   exact ⟨by simp,λg h=>by simpa using h⟩
  ·rw [zVe hk]
   refine ⟨?_,λg h=>?_⟩
   ·rw [zUx]
    exact zUu _ i1
   ·rw [zUx] at h ⊢
    rcases zU1.mp h with e|e
    ·exact zU1.mpr (.inl e)
    ·exact zUu _ (i2 g e)
theorem zCd (f:Str) (v:V):∀ fs:List (Str×V),(zCD f v fs).length<=fs.length+1
 | []=>by simp [zCD]
 |(k,x)::r=>by
  have ih:=zCd f v r
  rw [show zCD f v ((k,x)::r)=(if k=f then (k,v)::r else (k,x)::zCD f v r) from rfl]
  by_cases hk:k=f
  ·rw [zVE hk,zUv,zUv];omega
  ·rw [zVe hk,zUv,zUv];omega
theorem zFR.some_of {v:V} {o:Option Value} (r:zFR (some v) o):∃ u,o=some u/\yn v u:=by
 cases o with
 |none=>exact (show False from r).elim
 |some u=>exact ⟨u,rfl,r⟩
theorem zFR.none_of {o:Option Value} (r:zFR none o):o=none:=by
 cases o with
 |none=>rfl
 |some u=>exact (show False from r).elim
theorem zLa {v:V} {u:Value} (r:yn v u):PySem.W.handedIn u=true:=by
 cases v with
 |non=>cases (show u=Value.none from r);rfl
 |bl b=>cases (show u=Value.bool b from r);rfl
 |int i=>obtain ⟨t,e⟩:=(show ∃ t,u=Value.int i t from r);cases e;rfl
 |str x=>obtain ⟨t,e⟩:=(show ∃ t,u=Value.str x t from r);cases e;rfl
 |byt b=>obtain ⟨t,e⟩:=(show ∃ t,u=Value.bytes b t from r);cases e;rfl
 |flt b=>obtain ⟨t,e⟩:=(show ∃ t,u=Value.float b t from r);cases e;rfl
 |ref a=>cases (show u=Value.ref a from r);rfl
 |ty n=>cases (show u=Value.type n from r);rfl
section
variable {P:Program} {w:World} {H H':Hp} {h h':Heap} {a C dx:Addr} {fs fs':List (Str×V)}
theorem zIX (hok:HOk P w H h) (e:H a=some (.ins C dx fs)):∃ mA,zQs h a dx C mA/\(∀ f,zFR (fs.lookup f) (mA f))/\PySem.Within mA (fs.map (·.1))/\fs.length<=1000/\H dx=some (.own a):=by
 obtain ⟨d,z,ne,ob,mA,n,r,q⟩:=(show qo P w H h a (.ins C dx fs) from hok a _ e)
 exact ⟨mA,⟨ob,n,ne⟩,r,q,z,d⟩
end
structure Cls (K:Fg) (C:Addr):Prop where
 pg:PySem.W.plainGet K C Str.empty=true
 hd:PySem.W.hasDictIn K C=true
 po:PySem.W.plainOver K C=true
 sa:PySem.W.findIn K (.ref C) "__setattr__" = some (some (.builtin "object.__setattr__"))
theorem Cls.get {K:Fg} {C:Addr} (c:Cls K C) (f:Str):PySem.W.plainGet K C f=true:=c.pg
def qH (K:Fg) (C:Addr) (f:Str):Prop:=PySem.W.findIn K (.ref C) f=some none
theorem qH.taker {K:Fg} {C:Addr} {f:Str} (n:qH K C f):PySem.W.takerIn K C f=some none:=by
 unfold PySem.W.takerIn
 rw [show PySem.W.findIn K (.ref C) f=some none from n]
 rfl
structure zQv (K:Fg) (C:Addr) (m:Str) (f:Addr):Prop where
 at_:PySem.W.findIn K (.ref C) m=some (some (.ref f))
 fn:PySem.W.isFn K (.ref f)=true
 kp:PySem.W.keepIn K (.ref f)=true
section
variable {X:Cx} {pins:PNt} {σ:St} {H:Hp} {s:Shared} {a C dx:Addr} {fs:List (Str×V)} {f:Str} {v:V} {A:Around} {E:VSt}
theorem zKc {b:Bool} {Q:VSt} (I:Inv X pins σ H s) (e:H a=some (.ins C dx fs)) (c:Cls X.K C) (n:qH X.K C f) (l:fs.lookup f=some v)
  (h:∀ u s',Inv X pins σ H s'->yn v u->Q u s'):wpAny (model X.prog X.w) A (getAttr (.ref a) f b) Q E s:=by
 obtain ⟨mA,O,r,_,_,_⟩:=zIX I.hok e
 obtain ⟨u,hu,ru⟩:=zFR.some_of (v:=v) (o:=mA f) (by rw [<- l];exact r f)
 exact zQt I.kIn O (c.get f) c.hd n hu (zLa ru) (h u _ (I.tok _) ru)
theorem zDU {m:Str} {g:Addr} {pl:Sem Bool} {Q:Value×List Value->Shared->Prop} (I:Inv X pins σ H s) (e:H a=some (.ins C dx fs)) (c:Cls X.K C) (k:zQv X.K C m g) (l:fs.lookup m=none)
  (h:Q (.ref g,[.ref a]) s):wpAny (model X.prog X.w) A (getMethod (.ref a) m pl) Q E s:=by
 obtain ⟨mA,O,r,_,_,_⟩:=zIX I.hok e
 have hn:mA m=none:=zFR.none_of (by rw [<- l];exact r m)
 exact zN1 I.kIn O (c.get m) k.at_ k.fn hn h
theorem zKd {y:V} {u:Value} {Q:Unit->Shared->Prop} (I:Inv X pins σ H s) (e:H a=some (.ins C dx fs)) (c:Cls X.K C) (n:qH X.K C f) (hl:fs.length<1000) (ry:yn y u)
  (h:∀ s',Inv X pins σ (upd H a (.ins C dx (zCD f y fs))) s'->Q () s'):wpAny (model X.prog X.w) A (setAttr (.ref a) f u) Q E s:=by
 obtain ⟨mA,O,r,wi,_,ho⟩:=zIX I.hok e
 have hz:(fs.map (·.1)).length<=sizeLine:=by rw [zU4,zWZ];omega
 refine zQu I.kIn O c.sa c.po n.taker c.hd wi hz λh' O' sb=>h _ ?_
 have hd:∃ o,h'.get? dx=some o:=let ⟨o,_,_,e',_⟩:=O'.ns;⟨o,e'⟩
 refine I.write (x:=a) (e:=dx) (by rw [e];exact True.intro) (.inr ho) (λb q hb z=>(sb.2 b hb).trans z) hd ?_
 refine ⟨by rw [zJ O.ne];exact ho,?_,O.ne,O'.obj,_,O'.ns,λg=>?_,λg hg=>?_⟩
 ·have:=zCd f y fs;omega
 ·show zFR ((zCD f y fs).lookup g) (if g=f then some u else mA g)
  rw [zAI]
  by_cases q:g=f
  ·rw [zVE q,zVE q];exact ry
  ·rw [zVe q,zVe q];exact r g
 ·by_cases q:g=f
  ·rw [q];exact (zEU f y fs).1
  ·refine (zEU f y fs).2 g (wi g λz=>hg ?_)
   show (if g=f then some u else mA g)=none
   rw [zVe q];exact z
theorem Inv.made (I:Inv X pins σ H s):Inv X pins σ (upd (upd H s.heap.objs.size (.own (s.heap.objs.size+1))) (s.heap.objs.size+1) (.ins C s.heap.objs.size []))
  { s with heap:=(s.heap.push PySem.W.emptyDict).push (PySem.W.instObj C s.heap.objs.size) }:=by
 have e1:(s.heap.push PySem.W.emptyDict).get? s.heap.objs.size=some PySem.W.emptyDict:=zVO s.heap rfl
 have e2:((s.heap.push PySem.W.emptyDict).push (PySem.W.instObj C s.heap.objs.size)).get? (s.heap.objs.size+1)=some (PySem.W.instObj C s.heap.objs.size):=by
  have:=zVO (s.heap.push PySem.W.emptyDict) (o:=PySem.W.instObj C s.heap.objs.size) rfl
  rwa [zW8] at this
 have e3:(s.heap.push PySem.W.emptyDict).Ns s.heap.objs.size (λ_=>none):=⟨PySem.W.emptyDict,#[],_,e1,rfl,(λe he=>absurd he (by simp)),λ_=>rfl⟩
 have I1:=I.laid (a:=s.heap.objs.size) (o:=.own (s.heap.objs.size+1)) (h':=s.heap.push PySem.W.emptyDict) (t':=s.toks) (λb u q=>zU5 _ q) (zVA _) ⟨_,e1⟩
 refine I1.laid (a:=s.heap.objs.size+1) (o:=.ins C s.heap.objs.size []) (t':=s.toks) (λb u q=>zU5 _ q) (Nat.le_of_eq (zW8 _ _)) ?_
 have ne:s.heap.objs.size≠s.heap.objs.size+1:=zVN (zXK _)
 refine ⟨by rw [zJ ne,zN],zWS _,ne,e2,λ_=>none,(Heap.Ns1.of_empty e3).at λo q=>zU5 _ q,λ_=>True.intro,λy hy=>absurd rfl hy⟩
theorem zQw {prog:Program} {w:World} {env:Env} {e:Expr} {f:Str} {pos:Pos} {s:Shared} {Q:VSt} (hb:attributeBase e f env (eval e env)=eval e env)
  (h:wpAny (model prog w) A (eval e env) (λo s₁=>wpAny (model prog w) A (getAttr o f true) Q E s₁) E s):wpAny (model prog w) A (eval (.Attribute e f pos) env) Q E s:=
 Attribute_any_ h (by rw [arm_eval_Attribute,hb])
end
def tFld (K:Fg) (ta:TE) (f:Str):TE:=λσ H Q=>ta σ H λx H1=>∃ a C dx fs v,x = .ref a/\H1 a=some (.ins C dx fs)/\Cls K C/\qH K C f/\fs.lookup f=some v/\Q v H1
def sFld (K:Fg) (ta tv:TE) (f:Str):TS:=λD σ H=>tv σ H λy H1=>ta σ H1 λx H2=>∃ a C dx fs,x = .ref a/\H2 a=some (.ins C dx fs)/\Cls K C/\qH K C f/\fs.length<1000 /\
 D.nx σ (upd H2 a (.ins C dx (zCD f y fs)))
section
variable {X:Cx} {o e value:Expr} {f:Str} {pos pos' tpos:Pos} {ta tv:TE}
theorem zEV (he:PE X e ta) (hb:attributeBase e f X.env (eval e X.env)=eval e X.env):PE X (.Attribute e f pos) (tFld X.K ta f):=by
 intro pins s σ H Q I h
 refine zQw hb (thn (he pins s σ H _ I h) λu s1 zz=>?_)
 obtain ⟨x,H1,I1,rx,a,C,dx,fs,v,ex,ea,c,n,l,q⟩:=zz
 subst ex
 obtain rfl:u=Value.ref a:=rx
 exact zKc I1 ea c n l λu' s2 I2 ru=>⟨v,H1,I2,ru,q⟩
theorem zLb (ha:PE X o ta) (hv:PE X value tv) (hs:swapsWith value (some (.Attribute o f pos')) pos.line X.env=pure false):PS X (.Assign [.Attribute o f pos'] value pos) (sFld X.K ta tv f):=by
 intro pins s σ H D I h
 refine plainObj_wpAny_Assign_Attribute (thn (hv pins s σ H _ I h) λu s1 ⟨y,H1,I1,ry,q⟩=>thn (ha pins s1 σ H1 _ I1 q) λov s2 ⟨x,H2,I2,rx,a,C,dx,fs,ex,ea,c,n,l,q2⟩=>?_) hs
 subst ex
 obtain rfl:ov=Value.ref a:=rx
 exact zKd I2 ea c n l ry λs3 I3=>⟨σ,_,I3,q2⟩
theorem zQx {pl:Sem Bool} {m:Str} {apos:Pos} {args:List Expr} {pins:PNt} {s:Shared} {σ:St} {H:Hp} {Q:VSt} {te:TE} (he:PE X e te) (I:Inv X pins σ H s)
  (h:te σ H λx H1=>∃ a C dx fs g,x = .ref a/\H1 a=some (.ins C dx fs)/\Cls X.K C/\zQv X.K C m g/\fs.lookup m=none /\
   ∀ s1,Inv X pins σ H1 s1->wpAny (model X.prog X.w) X.A (callWith pos (.ref g) [.ref a] (backTo pos (starEach args X.env)) (backToKw pos (keywordEach [] X.env))) Q X.xe s1)
  (ht:eval (.Call (.Attribute e m apos) args [] pos) X.env=(do
   let ov <- eval e X.env
   standAt apos.atName
   let (f,first) <- holding [ov] (getMethod ov m pl)
   callWith pos f first (backTo pos (starEach args X.env)) (backToKw pos (keywordEach [] X.env)))) :
  wpAny (model X.prog X.w) X.A (eval (.Call (.Attribute e m apos) args [] pos) X.env) Q X.xe s:=by
 refine zXE (pl:=pl) (thn (he pins s σ H _ I h) λu s1 ⟨x,H1,I1,rx,a,C,dx,fs,g,ex,ea,c,k,l,q⟩=>?_) ht
 subst ex
 obtain rfl:u=Value.ref a:=rx
 exact zDU I1 ea c k l (q s1 I1)
end
section
variable {X:Cx} {pins:PNt} {σ:St} {H:Hp} {s:Shared} {A:Around} {E:VSt} {Q:VSt} {c:Value} {b:Bool}
end
end L2
namespace L2
open PySem PySem.Spec PyProof.Rows
structure zAB (k:Nat) (A:Around):Prop where
 hd:A.handled=none
 dp:A.depth+3*k+5<recursionLimit
 un:A.units+16*k+200<cLine
theorem zAB.mono {j k:Nat} {A:Around} (r:zAB k A) (h:j<=k):zAB j A:=⟨r.hd,by have:=r.dp;omega,by have:=r.un;omega⟩
theorem zAB.deeper {k:Nat} {A:Around} (r:zAB (k+1) A) (env:Env):zAB k (A.deeper env):=
 ⟨r.hd,by have:=r.dp;show A.depth+1+3*k+5<_;omega,by have:=r.un;show A.units+3+16*k+200<_;omega⟩
theorem zKe {A:Around} {C:Addr} {us:List Value} {kw:List (Str×Value)}:(A.under (.builtin "type.__call__" ⟨.ref C::us,kw⟩)).depth=A.depth+1:=by
 first|rfl|simp [Around.under,Code.weight,Code.isCreation,Code.isGuard,Code.isCaller,Code.frames,Code.isFrame,guardIds]
theorem zKf {A:Around} {C:Addr} {us:List Value} {kw:List (Str×Value)}:(A.under (.builtin "type.__call__" ⟨.ref C::us,kw⟩)).units=A.units+1:=by
 first|rfl|simp [Around.under,Code.cUnits,Code.frames,Code.isFrame]
theorem zAB.make {k:Nat} {A:Around} (r:zAB (k+1) A) (C:Addr) (us:List Value) (kw:List (Str×Value)):zAB k (A.under (.builtin "type.__call__" ⟨.ref C::us,kw⟩)):=
 ⟨r.hd,by have:=r.dp;rw [zKe];omega,by have:=r.un;rw [zKf];omega⟩
theorem zAB.depth {k:Nat} {A:Around} (r:zAB k A):A.depth<recursionLimit:=by have:=r.dp;omega
theorem zAB.units {k:Nat} {A:Around} (r:zAB k A):A.units+64<cLine:=by have:=r.un;omega
def tNil:TA:=λ_ H Q=>Q [] H
def zQy (ta:TE) (tr:TA):TA:=λσ H Q=>ta σ H λx H1=>tr σ H1 λxs H2=>Q (x::xs) H2
section
variable {X:Cx} {e:Expr} {es:List Expr} {te:TE} {t:TA} {pos:Pos}
theorem yy:PA X [] tNil:=λ_ _ _ _ H Q I h=>Calls.spliced_nil ⟨[],H,I,.nil,h⟩
theorem yD (ha:PE X e te) (hr:PA X es t) (hs:starEach (e::es) X.env=(false,eval e X.env)::starEach es X.env:=by rfl):PA X (e::es) (zQy te t):=by
 intro pos pins s σ H Q I h
 rw [hs]
 show wpAny _ _ (spliced ((false,eval e X.env)::backTo pos (starEach es X.env))) _ _ s
 refine Calls.spliced_cons (thn (ha pins s σ H _ I h) λu s1 zz=>?_)
 obtain ⟨x,H1,I1,r1,q1⟩:=zz
 exact thn (hr pos pins s1 σ H1 _ I1 q1) λus s2 ⟨xs,H2,I2,r2,q2⟩=>⟨x::xs,H2,I2,.cons r1 r2,q2⟩
def tTup (t:TA):TE:=λσ H Q=>t σ H λxs H1=>xs.length<=sizeLine/\∀ p,H1 p=none->Q (.ref p) (upd H1 p (.tup xs))
def tLst (t:TA):TE:=λσ H Q=>t σ H λxs H1=>xs.length<=sizeLine/\∀ p,H1 p=none->Q (.ref p) (upd H1 p (.lst xs))
theorem zTJ {x1} (h:PA X es t):PE X (.Tuple es x1 pos) (tTup t):=by
 intro pins s σ H Q I hq
 refine wpAny_Tuple_spliced (thn (h pos pins s σ H _ I hq) λus s1 ⟨xs,H1,I1,r,z,q⟩=>⟨by rw [<- r.length];exact z,?_⟩)
 have hf:H1 s1.heap.objs.size=none:=I1.hok.fresh (zVA _)
 refine ⟨.ref s1.heap.objs.size,upd H1 s1.heap.objs.size (.tup xs),I1.laid (t':=s1.toks) (λb u e=>zU5 _ e) (zVA _) ?_,rfl,q _ hf⟩
 exact ⟨z,us,r,⟨_,zVO _ rfl,rfl,_,rfl,rfl⟩⟩
theorem zLc (h:PA X es t):PE X (.List es pos) (tLst t):=by
 intro pins s σ H Q I hq
 refine wpAny_List_spliced (thn (h pos pins s σ H _ I hq) λus s1 ⟨xs,H1,I1,r,z,q⟩=>⟨by rw [<- r.length];exact z,?_⟩)
 have hf:H1 s1.heap.objs.size=none:=I1.hok.fresh (zVA _)
 refine ⟨.ref s1.heap.objs.size,upd H1 s1.heap.objs.size (.lst xs),I1.laid (t':=s1.toks) (λb u e=>zU5 _ e) (zVA _) ?_,rfl,q _ hf⟩
 exact ⟨z,us,0,r,zVO _ rfl⟩
end
abbrev Sp:=List V->Hp->VK->XK->Prop
abbrev CXT:=List Env->Hp->Shared->XK->Value->Shared->Prop
structure zQz (P:Program) (w:World) (K:Fg) (mg:MGt) (base:Heap) (A:Around) (outer:List Env) (s:Shared) (H:Hp):Prop where
 frames:A.frames=some outer
 mod:Mod K mg base
 bs:∀ b o,base.get? b=some o->s.heap.get? b=some o/\H b=none
 bsz:base.objs.size<=s.heap.objs.size
 funs:s.heap.FunFrames base outer
 frf:∀ b∈frs outer,H b=none
 hok:HOk P w H s.heap
 bare:AllBare s.gens
def CE (outer:List Env) (P:Program) (w:World) (H:Hp) (s:Shared) (Q:VK) (u:Value) (s':Shared):Prop:=
 ∃ v H',s'.os=s.os/\AllBare s'.gens/\Un (frs outer) [] H H' s.heap s'.heap/\HOk P w H' s'.heap/\yn v u/\Q v H'
def CR (CX:CXT) (outer:List Env) (P:Program) (w:World) (H:Hp) (s:Shared) (Q:VK) (E:XK) (r:Result) (s':Shared):Prop:=
 match r with
 |.ok (.ret u)=>CE outer P w H s Q u s'
 |.ok _=>False
 |.error e=>CX outer H s E e s'
structure zCe (P:Program) (w:World) (K:Fg) (mg:MGt) (base:Heap) (CX:CXT) (k:Nat) (f:Addr) (fd:FuncData) (ps:List Str) (sp:Sp):Prop where
 len:∀ vs H Q E,sp vs H Q E->vs.length=ps.length
 run:∀ (A:Around) (outer:List Env) (s:Shared) (H:Hp) (args:Args) (us:List Value) (vs:List V) (Q:VK) (E:XK),zAB k A->zQz P w K mg base A outer s H->BindsTo s fd args (ps.zip us)->yN vs us->sp vs H Q E ->
  codeAny (model P w) A (.call (.ref f) args) (CR CX outer P w H s Q E) s
theorem zQz.make {P:Program} {w:World} {K:Fg} {mg:MGt} {base:Heap} {A:Around} {outer:List Env} {s:Shared} {H:Hp} (e:zQz P w K mg base A outer s H) (C:Addr) (us:List Value) (kw:List (Str×Value)) :
  zQz P w K mg base (A.under (.builtin "type.__call__" ⟨.ref C::us,kw⟩)) outer s H:=⟨by first|exact e.frames|(simpa [Around.under,Code.envs,Code.isFrame,pushEnvs] using e.frames),e.mod,e.bs,e.bsz,e.funs,e.frf,e.hok,e.bare⟩
section
variable {X:Cx} {pins:PNt} {σ:St} {H:Hp} {s s':Shared}
theorem Inv.env0 (I:Inv X pins σ H s):zQz X.prog X.w X.K X.mg X.base X.A X.stack s H:=
 ⟨I.ok.frames,I.ok.mod,I.bs,zVb I.ok.bsz I.sz,I.stack,I.stkFree,I.hok,I.bare⟩
theorem Inv.after {Q:VK} {u:Value} (I:Inv X pins σ H s) (h:CE X.stack X.prog X.w H s Q u s'):EP X pins σ Q u s':=by
 obtain ⟨v,H',os,bare,un,hok,r,q⟩:=h
 obtain ⟨hh,g,d,t,os'⟩:=s'
 obtain rfl:os'=s.os:=os
 exact ⟨v,H',I.call (h':=hh) (g':=g) (d':=d) (t':=t) (ch:=[]) un hok bare (λb z=>absurd z (by simp)),r,q⟩
end
def tCall (sp:Sp) (dvs:List V) (E:XK) (t:TA):TE:=λσ H Q=>t σ H λvs H1=>sp (vs++dvs) H1 Q E
def zTK (C:Addr) (m:Str) (sp:Sp) (dvs:List V) (E:XK) (ta:TE) (t:TA):TE:=λσ H Q=>ta σ H λx H1=>∃ a dx fs,x = .ref a/\H1 a=some (.ins C dx fs)/\fs.lookup m=none /\
 t σ H1 λvs H2=>sp (x::(vs++dvs)) H2 Q E
def zAx (K:Fg) (fd:FuncData) (ps:List Str) (ds:List Value):Prop:=
 ∀ (s:Shared) (us:List Value),K.In s.heap->(us++ds).length=ps.length->BindsTo s fd ⟨us,[]⟩ (ps.zip (us++ds))
theorem zAx.all {K:Fg} {fd:FuncData} {ps:List Str} (h:∀ us:List Value,us.length=ps.length->bindArgs fd ⟨us,[]⟩=pure (ps.zip us)):zAx K fd ps []:=λs us _ hl=>by
 rw [zVZ] at hl ⊢
 exact .of_eq (h us hl)
def zBb (CX:CXT) (X:Cx) (E:XK):Prop:=∀ (pins:PNt) (σ:St) (H:Hp) (s:Shared) (e:Value) (s':Shared),Inv X pins σ H s->CX X.stack H s E e s'->X.xe e s'
section
variable {X:Cx} {CX:CXT} {k:Nat} {f C:Addr} {fd:FuncData} {ps:List Str} {sp:Sp} {dvs:List V} {ds:List Value} {E:XK} {x m:Str} {p pos apos:Pos} {e o:Expr} {es:List Expr} {ta:TE} {t:TA}
theorem zLd {pins:PNt} {σ:St} {H:Hp} {s:Shared} {Q:VK} {us:List Value} {vs:List V} (F:zCe X.prog X.w X.K X.mg X.base CX k f fd ps sp) (hr:zAB k X.A) (hb:zAx X.K fd ps ds) (hd:yN dvs ds) (hx:zBb CX X E)
  (I:Inv X pins σ H s) (r:yN vs us) (h:sp (vs++dvs) H Q E):wpAny (model X.prog X.w) X.A (call (.ref f) us) (EP X pins σ Q) X.xe s:=by
 have r2:yN (vs++dvs) (us++ds):=r.append hd
 have hl:(us++ds).length=ps.length:=by rw [<- r2.length];exact F.len _ _ _ _ h
 refine wpAny_call (codeAny_mono (F.run X.A X.stack s H ⟨us,[]⟩ (us++ds) (vs++dvs) Q E hr I.env0 (hb s us I.kIn hl) r2 h) λr s' hq=>?_)
 cases r with
 |error e=>exact hx pins σ H s e s' I hq
 |ok fl=>
  cases fl with
  |ret u=>exact I.after hq
  |next=>exact False.elim hq
  |brk=>exact False.elim hq
  |cont=>exact False.elim hq
theorem zEW (F:zCe X.prog X.w X.K X.mg X.base CX k f fd ps sp) (hr:zAB k X.A) (hg:Gl X x) (hm:X.mg x=some (.ref f)) (hk:PySem.W.keepIn X.K (.ref f)=true) (hb:zAx X.K fd ps ds) (hd:yN dvs ds) (hx:zBb CX X E)
  (ha:PA X (e::es) t) (hdb:(x == ("__debug__" : Str))=false:=by decide) (he:starEach (e::es) X.env=(false,eval e X.env)::starEach es X.env:=by rfl) (hpl:(backTo pos (starEach es X.env)).any (·.1)=false:=by rfl) :
  PE X (.Call (.Name x p) (e::es) [] pos) (tCall sp dvs E t):=by
 intro pins s σ H Q I h
 refine zWe (zGN I hg hm ?_ hdb)
 refine zXT (h₀:=X.base) I.ok.mod.kin hk (thn (ha pos pins s σ H _ I h) λus s1 ⟨vs,H1,I1,r,q⟩=>⟨I1.kIn,?_⟩) he hpl
 exact zLd F hr hb hd hx I1 r q
theorem zIY {pl:Sem Bool} (he:PE X o ta) (c:Cls X.K C) (hm:zQv X.K C m f) (F:zCe X.prog X.w X.K X.mg X.base CX k f fd ps sp) (hr:zAB k X.A) (hb:zAx X.K fd ps ds) (hd:yN dvs ds) (hx:zBb CX X E) (ha:PA X (e::es) t)
  (hst:starEach (e::es) X.env=(false,eval e X.env)::starEach es X.env:=by rfl) (hpl:(backTo pos (starEach es X.env)).any (·.1)=false:=by rfl)
  (ht:eval (.Call (.Attribute o m apos) (e::es) [] pos) X.env=(do
   let ov <- eval o X.env
   standAt apos.atName
   let (f,first) <- holding [ov] (getMethod ov m pl)
   callWith pos f first (backTo pos (starEach (e::es) X.env)) (backToKw pos (keywordEach [] X.env))):=by rfl) :
  PE X (.Call (.Attribute o m apos) (e::es) [] pos) (zTK C m sp dvs E ta t):=by
 intro pins s σ H Q I h
 refine zXE (pl:=pl) (thn (he pins s σ H _ I h) λu s1 ⟨x,H1,I1,rx,a,dx,fs,ex,ea,l,q⟩=>?_) ht
 subst ex
 obtain rfl:u=Value.ref a:=rx
 refine zDU I1 ea c hm l ?_
 refine zXT (first:=[.ref a]) (h₀:=X.base) I.ok.mod.kin hm.kp (thn (ha pos pins s1 σ H1 _ I1 q) λus s2 ⟨vs,H2,I2,r,q2⟩=>⟨I2.kIn,?_⟩) hst hpl
 exact zLd (us:=.ref a::us) (vs:=.ref a::vs) F hr hb hd hx I2 (.cons rfl r) q2
theorem zN3 {pl:Sem Bool} (he:PE X o ta) (c:Cls X.K C) (hm:zQv X.K C m f) (F:zCe X.prog X.w X.K X.mg X.base CX k f fd ps sp) (hr:zAB k X.A) (hb:zAx X.K fd ps ds) (hd:yN dvs ds) (hx:zBb CX X E)
  (ht:eval (.Call (.Attribute o m apos) [] [] pos) X.env=(do
   let ov <- eval o X.env
   standAt apos.atName
   let (f,first) <- holding [ov] (getMethod ov m pl)
   callWith pos f first (backTo pos (starEach [] X.env)) (backToKw pos (keywordEach [] X.env))):=by rfl) :
  PE X (.Call (.Attribute o m apos) [] [] pos) (zTK C m sp dvs E ta tNil):=by
 intro pins s σ H Q I h
 refine zXE (pl:=pl) (thn (he pins s σ H _ I h) λu s1 ⟨x,H1,I1,rx,a,dx,fs,ex,ea,l,q⟩=>?_) ht
 subst ex
 obtain rfl:u=Value.ref a:=rx
 refine zDU I1 ea c hm l ?_
 exact PySem.W.callWith_K0 (first:=[.ref a]) I1.kIn hm.kp (zLd (us:=[.ref a]) (vs:=[.ref a]) F hr hb hd hx I1 (.cons rfl .nil) q)
structure Mk (K:Fg) (C f:Addr):Prop where
 makes:PySem.W.makesIn K C=true
 init:PySem.W.findIn K (.ref C) "__init__" = some (some (.ref f))
 fn:PySem.W.isFn K (.ref f)=true
 kp:PySem.W.keepIn K (.ref C)=true
end
section
variable {X:Cx} {CX:CXT} {k:Nat} {f C:Addr} {fd:FuncData} {ps ks:List Str} {sp:Sp} {E:XK} {x m:Str} {p pos apos kpos:Pos} {e o:Expr} {es:List Expr} {kws:List Keyword} {te ta:TE} {t tk:TA} {nm:Option Str}
variable {g:List Value->List Value->List Value} {gV:List V->List V->List V}
end
structure zV (N P:List Str) (sc:Scope):Prop where
 kind:sc.kind = .function
 co:sc.isCoroutine=false
 gen:sc.isGenerator=false
 nd:N.Nodup
 pre:N.take P.length=P
 par:∀ x∈P,sc.names.lookup x=some .local\/sc.names.lookup x=some .cell
 nofree:∀ y∈sc.names,y.2≠.free
theorem zHL {kindOf:Str->Option NameKind} {x:Str}:∀ {binds:List (Str×Value)} {m:MGt},(∀ v,(x,v)∉binds)->bindL kindOf binds m x=m x
 | [],_,_=>rfl
 |(n,v)::r,m,h=>by
  unfold bindL
  rw [zHL λw hw=>h w (zUu _ hw)]
  split
  ·have:x≠n:=by rintro rfl;exact h v zU0
   simp [this]
  ·rfl
theorem zHM {kindOf:Str->Option NameKind} {x:Str}:∀ {binds:List (Str×Value)} {m:MGt},(∀ v,(x,v)∉binds)->bindC kindOf binds m x=m x
 | [],_,_=>rfl
 |(n,v)::r,m,h=>by
  unfold bindC
  rw [zHM λw hw=>h w (zUu _ hw)]
  split
  ·rfl
  ·have:x≠n:=by rintro rfl;exact h v zU0
   simp [this]
theorem zHN {kindOf:Str->Option NameKind} {x:Str} {v:Value}:∀ {P:List Str} {vs:List Value} {i:Nat} {m:MGt},P.Nodup->P[i]?=some x->vs[i]?=some v->kindOf x=some .local ->
  bindL kindOf (P.zip vs) m x=some v
 | [],_,_,_,_,h,_,_=>by simp at h
 |_::_,[],_,_,_,_,h,_=>by simp at h
 |p::P,w::vs,0,m,nd,h1,h2,hk=>by
  simp at h1 h2;subst h1;subst h2
  show bindL kindOf ((p,w)::P.zip vs) m p=_
  unfold bindL
  rw [zHL λv hv=>(zVa.mp nd).1 (List.of_mem_zip hv).1,zVE hk]
  simp
 |p::P,w::vs,i+1,m,nd,h1,h2,hk=>by
  show bindL kindOf ((p,w)::P.zip vs) m x=_
  unfold bindL
  exact zHN (i:=i) (zVa.mp nd).2 (by simpa using h1) (by simpa using h2) hk
theorem zHO {kindOf:Str->Option NameKind} {x:Str} {v:Value}:∀ {P:List Str} {vs:List Value} {i:Nat} {m:MGt},P.Nodup->P[i]?=some x->vs[i]?=some v->kindOf x≠some .local ->
  bindC kindOf (P.zip vs) m x=some v
 | [],_,_,_,_,h,_,_=>by simp at h
 |_::_,[],_,_,_,_,h,_=>by simp at h
 |p::P,w::vs,0,m,nd,h1,h2,hk=>by
  simp at h1 h2;subst h1;subst h2
  show bindC kindOf ((p,w)::P.zip vs) m p=_
  unfold bindC
  rw [zHM λv hv=>(zVa.mp nd).1 (List.of_mem_zip hv).1,zVe hk]
  simp
 |p::P,w::vs,i+1,m,nd,h1,h2,hk=>by
  show bindC kindOf ((p,w)::P.zip vs) m x=_
  unfold bindC
  exact zHO (i:=i) (zVa.mp nd).2 (by simpa using h1) (by simpa using h2) hk
def zBH (N:List Str) (vs:List V):St:=vs.map some++List.replicate (N.length-vs.length) none
def zFS (CX:CXT) (P:Program) (w:World) (K:Fg) (mg:MGt) (base:Heap) (N:List Str) (qual:Str) (scope:Scope) (f:Addr) (cd:Value) (A:Around) (outer:List Env) (s:Shared) (H:Hp) (E:XK):Cx where
 prog:=P
 w:=w
 K:=K
 mg:=mg
 base:=base
 A:=A.deeper (envOfC qual scope s.heap.objs.size f cd)
 N:=N
 s₀:=s
 H₀:=H
 env:=envOfC qual scope s.heap.objs.size f cd
 outer:=outer
 stack:=envOfC qual scope s.heap.objs.size f cd::outer
 ex:=[]
 calm:=true
 fn:=λ_=>true
 pn:=[]
 xe:=λe s'=>wpAny (model P w) (A.deeper (envOfC qual scope s.heap.objs.size f cd)) (leaving (envOfC qual scope s.heap.objs.size f cd) e) (λ_ s''=>CX outer H s E e s'') (λe' s''=>CX outer H s E e' s'') s'
theorem zJa {sc:Scope} {n:Nat} {x:Str} (h:sc.names.lookup x=some .cell):∃ c,(cellsFrom n sc.names []).lookup x=some c:=by
 have q:=PySem.W.cellsFrom_some sc.names n [] (.inl h)
 exact Option.isSome_iff_exists.mp q
theorem zLe {CX:CXT} {P:Program} {w:World} {K:Fg} {mg:MGt} {base:Heap} {N ps:List Str} {qual:Str} {scope:Scope} {f:Addr} {cd:Value} {A:Around} {outer:List Env} {s s1:Shared} {H:Hp} {E:XK} {us:List Value} {vs:List V}
  (S:zV N ps scope) (hd:A.handled=none) (e0:zQz P w K mg base A outer s H) (hl:vs.length=ps.length) (r:yN vs us)
  (x:InCallC s s.heap.objs.size (bindL (envOfC qual scope s.heap.objs.size f cd).kindOf (ps.zip us) λ_=>none) (cellsFrom (s.heap.objs.size+1) scope.names []) (bindC (envOfC qual scope s.heap.objs.size f cd).kindOf (ps.zip us) λ_=>none) s1) :
  Inv (zFS CX P w K mg base N qual scope f cd A outer s H E) [] (zBH N vs) H s1:=by
 have hpl:ps.length<=N.length:=by have:=zVw List.length S.pre;rw [zXI] at this;omega
 obtain ⟨h1,tk,rfl,hk⟩:=x.done
 have noA:∀ b:Addr,b∉(zFS CX P w K mg base N qual scope f cd A outer s H E).ex:=λb z=>absurd (show b∈([]:List Addr) from z) (by simp)
 refine ⟨⟨e0.mod,S.kind,rfl,rfl,zVA _,λy z c h1 h2=>?_,λy hy=>?_,λy c _ h=>?_,λ_=>hd,Around.frames_deeper e0.frames,.inr ⟨rfl,rfl⟩,λb z=>absurd z (noA b),e0.bs,e0.bsz,λb _ _=>noA b,λb z=>absurd z (noA b),e0.funs,e0.frf⟩,
  rfl,e0.bare,Un.kept hk,⟨_,x.toInCall.ns,λi y v h1 h2 h3=>?_⟩,λy c h=>⟨_,x.cell y c h⟩,e0.hok.fresh (zVA _),λy c h=>?_,λp hp=>absurd (show p∈([]:PNt) from hp) (by simp),e0.hok.kept hk,?_⟩
 ·exact name_of_addr x.apart (zV6 h1) (zV6 h2)
 ·have hy:scope.names.lookup y=some .cell\/scope.names.lookup y=some .free:=hy
  rcases hy with hy|hy
  ·exact zJa hy
  ·exact absurd rfl (S.nofree _ (zV6 hy))
 ·exact Nat.le_of_lt (x.above y c (zV6 h))
 ·have hi:i<vs.length:=by
   unfold zBH at h2
   by_cases hi:i<vs.length
   ·exact hi
   ·rw [zVW (by simpa using hi)] at h2
    rw [zVo] at h2
    split at h2<;>cases h2
  have ha:vs[i]?=some v:=by
   unfold zBH at h2
   rw [zVP (by simpa using hi),zVc] at h2
   cases e:vs[i]? with
   |none=>rw [e] at h2;cases h2
   |some a=>rw [e] at h2;cases h2;rfl
  obtain ⟨u,hu,rv⟩:=r.get ha
  have hp:ps[i]?=some y:=by
   rw [<- S.pre,List.getElem?_take_of_lt (by omega)];exact h1
  have ndP:ps.Nodup:=by rw [<- S.pre];exact S.nd.sublist (List.take_sublist _ _)
  refine ⟨u,rv,?_⟩
  rcases S.par y (zVF hp) with k|k
  ·exact .inl ⟨k,zHN ndP hp hu k⟩
  ·obtain ⟨c,e⟩:=zJa (n:=s.heap.objs.size+1) k
   refine .inr ⟨.inl k,c,e,?_⟩
   have q:=x.cell y c e
   rw [zHO ndP hp hu (by show scope.names.lookup y≠_;rw [k];decide)] at q
   exact q
 ·exact e0.hok.fresh (Nat.le_of_lt (x.above y c (zV6 h)))
 ·unfold zBH
  show _=N.length
  rw [zU9,zU4,zXC]
  omega
theorem zN4 {CX:CXT} {P:Program} {w:World} {K:Fg} {mg:MGt} {base:Heap} {k:Nat} {f:Addr} {name qual:Str} {params:Arguments} {body:List Stmt} {scope:Scope} {dV kV doc pm cdv ct oc:Value} {an od:Option Addr}
  {osl:Array (Option Value)} {N ps:List Str} {sp:Sp} (lk:K.lookup f=some ⟨oc,od,.func (PySem.W.fnOf name qual params body scope dV kV doc pm an cdv ct),osl⟩) (hcd:PySem.W.codeIn K cdv qual=true) (S:zV N ps scope)
  (len:∀ vs H Q E,sp vs H Q E->vs.length=ps.length)
  (hbody:∀ (A:Around) (outer:List Env) (s:Shared) (H:Hp) (vs:List V) (Q:VK) (E:XK),zAB k (A.deeper (envOfC qual scope s.heap.objs.size f cdv))->sp vs H Q E ->
   ∃ t,PSs (zFS CX P w K mg base N qual scope f cdv A outer s H E) body t/\t { nx:=λ_ H'=>Q .non H',rt:=Q } (zBH N vs) H) :
  zCe P w K mg base CX (k+1) f (PySem.W.fnOf name qual params body scope dV kV doc pm an cdv ct) ps sp:=by
 refine ⟨len,λA outer s H args us vs Q E hr e0 hb r hsp=>?_⟩
 have hl:=len _ _ _ _ hsp
 have KX:K.In s.heap:=e0.mod.kin.keeps λb o e=>(e0.bs b o e).1
 have lim:s.heap.NoLimit:=e0.mod.nolimit.keeps λb o e=>(e0.bs b o e).1
 have hkind:∀ y∈ps.zip us,scope.names.lookup y.1=some .local\/(scope.names.lookup y.1=some .cell/\((cellsFrom (s.heap.objs.size+1) scope.names []).lookup y.1).isSome=true):=by
  rintro ⟨n,v⟩ hy
  rcases S.par n (List.of_mem_zip hy).1 with q|q
  ·exact .inl q
  ·exact .inr ⟨q,PySem.W.cellsFrom_some _ _ _ (.inl q)⟩
 refine codeAny_call_function hr.depth (KX _ _ lk) rfl S.co S.gen rfl (PySem.W.codeRec_of KX hcd) (hb _ _ _ _ ?_)
 refine wpAny_newFunctionEnv_cells S.kind hkind λenv he s1 x=>?_
 subst he
 refine ⟨lim.keeps x.toInCall.keep,codeAny_func ?_⟩
 obtain ⟨t,ht,hq⟩:=hbody A outer s H vs Q E (hr.deeper _) hsp
 have I:Inv (zFS CX P w K mg base N qual scope f cdv A outer s H E) [] (zBH N vs) H s1:=zLe S hr.hd e0 hl r x
 refine zVk (ht [] s1 (zBH N vs) H _ I hq) (λfl s' hs=>?_) λe s' hs=>hs
 have fin:∀ {σ':St} {H':Hp} {v:V} {u:Value},Inv (zFS CX P w K mg base N qual scope f cdv A outer s H E) [] σ' H' s'->yn v u->Q v H'->CE outer P w H s Q u s':=
  λ{σ' H' v u} J rv q=>⟨v,H',J.os,J.bare,J.base,J.hok,rv,q⟩
 cases fl with
 |ret u=>
  obtain ⟨v,σ',H',J,rv,q⟩:=hs
  exact fin J rv q
 |next=>
  obtain ⟨σ',H',J,q⟩:=hs
  exact fin (v:=V.non) (u:=Value.none) J rfl q
 |brk=>
  obtain ⟨_,_,_,q⟩:=hs
  exact False.elim q
 |cont=>
  obtain ⟨_,_,_,q⟩:=hs
  exact False.elim q
end L2
namespace L2
open PySem PySem.Spec PyProof.Rows
section
variable {X:Cx} {x:Str} {p pos:Pos} {e:Expr} {es:List Expr} {t:TA} {id T:String} {r:List V->Hp->VK->Prop}
def tCB (r:List V->Hp->VK->Prop) (t:TA):TE:=λσ H Q=>t σ H λvs H1=>r vs H1 Q
theorem zCq (hc:zAl X (.builtin id) r) (hg:Gl X x) (hm:X.mg x=none) (hv:bootBuiltins x=some (.builtin id)) (ha:PA X (e::es) t) (hn:x ≠ "__name__":=by decide) (hdb:(x == ("__debug__" : Str))=false:=by decide)
  (he:starEach (e::es) X.env=(false,eval e X.env)::starEach es X.env:=by rfl) (hpl:(backTo pos (starEach es X.env)).any (·.1)=false:=by rfl):PE X (.Call (.Name x p) (e::es) [] pos) (tCB r t):=by
 intro pins s σ H Q I h
 refine zWe (zFg I hg hm hv ?_ hn hdb)
 exact PyProof.Rows.callWith_builtin1 (thn (ha pos pins s σ H _ I h) λus s1 ⟨vs,H1,I1,r1,q1⟩=>hc pins s1 σ H1 vs us Q I1 r1 q1) he hpl
theorem zEX (hc:zAl X (.type T) r) (hg:Gl X x) (hm:X.mg x=none) (hv:bootBuiltins x=some (.type T)) (ha:PA X (e::es) t) (hn:x ≠ "__name__":=by decide) (hdb:(x == ("__debug__" : Str))=false:=by decide)
  (he:starEach (e::es) X.env=(false,eval e X.env)::starEach es X.env:=by rfl) (hpl:(backTo pos (starEach es X.env)).any (·.1)=false:=by rfl):PE X (.Call (.Name x p) (e::es) [] pos) (tCB r t):=by
 intro pins s σ H Q I h
 refine zWe (zFg I hg hm hv ?_ hn hdb)
 exact zWL (thn (ha pos pins s σ H _ I h) λus s1 ⟨vs,H1,I1,r1,q1⟩=>hc pins s1 σ H1 vs us Q I1 r1 q1) he hpl
end
end L2
namespace HT
open PySem PyProof.Rows
section
open PySem.SeqAt
open PySem.AutoSeq1 (wpAny_loadPart')
open PySem.MeetsSeq PySem.MeetsSeq2 PySem.MeetsSeq3
end
section
variable {prog:Program} {w:World} {A:Around} {E:VSt} {s:Shared}
theorem zQ0 {t b:Addr} {vs ws:List Value} {Q:VSt} (ht:IsTup s.heap t vs.toArray) (hb:IsTup s.heap b ws.toArray) (hv:vs≠[])
  (h1:ws = []->Q (.ref t) s) (h2:ws≠[]->Q (.ref s.heap.objs.size) { s with heap:=s.heap.push { cls:=.type "tuple",data:=.seq (vs++ws).toArray } })
  (hsz:vs.length+ws.length<=sizeLine):wpAny (model prog w) A (binaryOp .Add (.ref t) (.ref b)) Q E s:=by
 obtain ⟨⟨cls,dd,data,sl⟩,ho,hc,n,hd⟩:=id ht
 obtain ⟨⟨cls2,dd2,data2,sl2⟩,ho2,hc2,n2,hd2⟩:=id hb
 simp only at hc hd hc2 hd2
 subst hc hd hc2 hd2
 have e:vs.toArray++ws.toArray=(vs++ws).toArray:=by simp
 by_cases hw:ws = []
 ·exact concat_meets ⟨_,ho,rfl⟩ ⟨_,ho2,rfl⟩ noFill_tuple_add seq_tuple_add zW1 zWx (zWs _ _)
   (tuple_addW1 t b vs.toArray ws.toArray n n2 dd dd2 sl sl2 (by simpa using hv) (by simp [hw])) ⟨ho,ho2,h1 hw⟩
 ·refine concat_meets ⟨_,ho,rfl⟩ ⟨_,ho2,rfl⟩ noFill_tuple_add seq_tuple_add zW1 zWx (zWs _ _)
   (tuple_addW2 t b vs.toArray ws.toArray n n2 dd dd2 sl sl2 (by simpa using hv) (by simpa using hw) (by rw [zU3,zU3];exact hsz)) ⟨ho,ho2,?_⟩
  rw [e]
  exact h2 hw
def sIx (n d:Nat):Option Int->Nat
 |none=>d
 |some v=>if v<0 then (v+(n:Int)).toNat else min v.toNat n
theorem zTL (n d:Nat) (hd:d<=n) (o:Option Int):sIx n d o<=n:=by
 cases o with
 |none=>exact hd
 |some v=>
  show (if v<0 then (v+(n:Int)).toNat else min v.toNat n)<=n
  by_cases hv:v<0
  ·rw [zVE hv];omega
  ·rw [zVe hv];exact Nat.min_le_right _ _
theorem zLf (v:Int) (n d:Nat):(if v<0 then max (v+(n:Int)) 0 else min v (n:Int))=((sIx n d (some v):Nat):Int):=by
 show (if v<0 then max (v+(n:Int)) 0 else min v (n:Int))=(((if v<0 then (v+(n:Int)).toNat else min v.toNat n):Nat):Int)
 by_cases hv:v<0
 ·simp only [zVE hv];omega
 ·simp only [zVe hv];omega
theorem zKg (lo hi:Option Int) (n:Nat):Builtin.Slice.sliceAdjust lo hi 1 (n:Int)=(((sIx n 0 lo:Nat):Int),((sIx n n hi:Nat):Int)):=by
 have h1:¬ ((1:Int)<0):=by omega
 unfold Builtin.Slice.sliceAdjust
 simp only [h1,zV8]
 refine Prod.ext ?_ ?_
 ·cases lo with
  |none=>rfl
  |some v=>exact zLf v n 0
 ·cases hi with
  |none=>rfl
  |some v=>exact zLf v n n
theorem zKh (i j:Nat):Builtin.Slice.slicePlaces (i:Int) (j:Int) 1=j-i:=by
 unfold Builtin.Slice.slicePlaces
 have h1:(1:Int)>0:=by omega
 simp only [h1,zVp,Int.ediv_one]
 split<;>omega
theorem zFj {v:Value} {o:Option Int} {Q:Option Int->Shared->Prop} (p:IsPart v o) (h:Q o s):wpAny (model prog w) A (Builtin.Slice.slicePartIndex v) Q E s:=by
 cases p with
 |none=>exact slicePart_none h
 |int i t=>exact slicePart_int h
theorem zBc {sl:Addr} {vl vu:Value} {lo hi:Option Int} {n:Nat} {Q:Int×Int×Nat->Shared->Prop} (hs:s.heap.IsSliceOf sl vl vu .none) (pl:IsPart vl lo) (pu:IsPart vu hi)
  (h:Q (((sIx n 0 lo:Nat):Int),1,sIx n n hi-sIx n 0 lo) s):wpAny (model prog w) A (Builtin.Slice.sliceApplied (.ref sl) (pure (n:Int))) Q E s:=by
 obtain ⟨os,hos,hcs,hds⟩:=id hs
 unfold Builtin.Slice.sliceApplied Builtin.Slice.sliceFields
 refine zUz (zUz (zW7 hos hds (x:=vl) rfl (zUz (zW7 hos hds (x:=vu) rfl (zUz (zW7 hos hds (x:=.none) rfl (zU6 ?_)))))))
 refine zUz (slicePart_none ?_)
 show wpAny _ _ (if ((1:Int) == 0)=true then _ else _) _ _ s
 rw [zVe (by decide)]
 refine zUz (zFj pl (zUz (zFj pu (zUz (zU6 ?_)))))
 show wpAny _ _ (match Builtin.Slice.sliceAdjust lo hi 1 (n:Int) with|(lo,hi)=>pure (lo,(1:Int),Builtin.Slice.slicePlaces lo hi 1)) _ _ s
 rw [zKg lo hi n]
 show wpAny _ _ (pure (((sIx n 0 lo:Nat):Int),(1:Int),Builtin.Slice.slicePlaces ((sIx n 0 lo:Nat):Int) ((sIx n n hi:Nat):Int) 1)) _ _ s
 rw [zKh]
 exact zU6 h
theorem zN5 (xs:Array Value) (i k:Nat):((List.range k).filterMap λ(m:Nat)=>xs[((i:Int)+(m:Int)*1).toNat]?).toArray=((xs.toList.drop i).take k).toArray:=by
 have e:(λ(m:Nat)=>xs[((i:Int)+(m:Int)*1).toNat]?)=λm=>xs[i+m]?:=by
  funext m
  have:((i:Int)+(m:Int)*1).toNat=i+m:=by omega
  rw [this]
 rw [e]
 have:=pick_run xs i k
 rw [List.filterMap_map] at this
 have e2:((λx=>xs[x]?)∘λx=>i+x)=λm=>xs[i+m]?:=rfl
 rw [e2] at this
 rw [this]
theorem zDV {t sl:Addr} {items:Array Value} {vl vu:Value} {lo hi:Option Int} {Q:VSt} (ht:IsTup s.heap t items) (hs:s.heap.IsSliceOf sl vl vu .none) (pl:IsPart vl lo) (pu:IsPart vu hi)
  (hw:¬ (sIx items.size 0 lo=0/\sIx items.size items.size hi=items.size))
  (h:Q (.ref s.heap.objs.size) { s with heap:=s.heap.push { cls:=.type "tuple",data:=.seq ((items.toList.drop (sIx items.size 0 lo)).take (sIx items.size items.size hi-sIx items.size 0 lo)).toArray } })
  (hsz:items.size<=sizeLine):wpAny (model prog w) A (getItem (.ref t) (.ref sl)) Q E s:=by
 have htake:sizeOk (.seq ((items.toList.drop (sIx items.size 0 lo)).take (sIx items.size items.size hi-sIx items.size 0 lo)).toArray):=by
  show ((items.toList.drop (sIx items.size 0 lo)).take (sIx items.size items.size hi-sIx items.size 0 lo)).toArray.size<=sizeLine
  rw [zU3,zXI,zXH,zWq]
  omega
 have hj:sIx items.size items.size hi<=items.size:=zTL _ _ (zVA _) hi
 obtain ⟨os,hos,hcs,hds⟩:=id hs
 have hTs:s.TypeIs (.ref sl) "slice":=⟨os,hos,hcs⟩
 unfold getItem
 try with_reducible refine zWQ ?_
 first|refine zUz (zU6 ?_)|skip
 refine zUz (wpAny_sequenceKey ht.typeIs (by decide) ?_)
 refine zUz (wpAny_callSpecial?_slot (name:=Str.ofString "__getitem__") ht.typeIs zWC
  (wpAny_call_entry zWC ht.typeIs entry_tuple_getitem ?_ (args_tuple_getitem _ _)))
 show wpAny _ _ (Builtin.Tuple.tupleItemsOf (.ref t) >>= _) _ _ s
 refine zUz (tupleItemsOf_ ht ?_)
 refine zUz (zWu hTs ?_)
 rw [zVE (by decide)]
 refine zUz (zBc hs pl pu ?_)
 have hno:¬ ((((sIx items.size 0 lo:Nat):Int) == 0 && (1:Int) == 1 && (sIx items.size items.size hi-sIx items.size 0 lo) == items.size)=true):=by
  intro q
  rw [zVm,zVm] at q
  have q1:((sIx items.size 0 lo:Nat):Int)=0:=eq_of_beq q.1.1
  have q2:sIx items.size items.size hi-sIx items.size 0 lo=items.size:=eq_of_beq q.2
  exact hw ⟨by omega,by omega⟩
 show wpAny _ _ (if (((sIx items.size 0 lo:Nat):Int) == 0 && (1:Int) == 1 && (sIx items.size items.size hi-sIx items.size 0 lo) == items.size)=true then _ else _) _ _ s
 rw [zVe hno,zN5]
 first
  |exact zUz (m:=Builtin.Tuple.tupleExact _) (zWn (zU6 ⟨_,rfl,zU6 h⟩) htake)
  |exact zUz (m:=Builtin.Tuple.tupleExact _) (zWn (zUz (zU6 (zU6 ⟨_,rfl,zU6 h⟩))) htake)
  |exact zUz (zUz (m:=Builtin.Tuple.tupleExact _) (zWn (zU6 (zU6 ⟨_,rfl,zU6 h⟩)) htake))
  |exact zUz (zUz (m:=Builtin.Tuple.tupleExact _) (zWn (zU6 ⟨_,rfl,zU6 h⟩) htake))
end
end HT
namespace L2
open PySem PySem.Spec PyProof.Rows
abbrev TO:=St->Hp->(Option Int->Hp->Prop)->Prop
def PO (X:Cx) (e:Option Expr) (t:TO):Prop:=
 ∀ (pins:PNt) (s:Shared) (σ:St) (H:Hp) (Q:Option Int->Hp->Prop),Inv X pins σ H s->t σ H Q ->
  wpAny (model X.prog X.w) X.A (evalPart e X.env) (λu s'=>∃ o H',Inv X pins σ H' s'/\IsPart u o/\Q o H') X.xe s
def zQ1:TO:=λ_ H Q=>Q none H
def tPart (t:TE):TO:=λσ H Q=>t σ H λx H1=>∃ i,x = .int i/\Q (some i) H1
theorem zFk {ns:List Int}:∀ {us:List Value},yN (ns.map V.int) us->IntsAre us ns:=by
 induction ns with
 |nil=>intro us r;rw [zV7] at r;cases r;exact .nil
 |cons n ns ih=>
  intro us r
  rw [zUx] at r
  cases r with
  |cons r1 r2=>
   obtain ⟨t,e⟩:=r1
   subst e
   exact .cons n t (ih r2)
section
variable {X:Cx} {e:Expr} {te:TE} {lo hi:Option Expr} {tl th:TO} {pos p2:Pos}
theorem zQ2:PO X none zQ1:=by
 intro pins s σ H Q I h
 rw [evalPart_none]
 exact zU6 ⟨none,H,I,.none,h⟩
theorem zQ3 (h:PE X e te):PO X (some e) (tPart te):=by
 intro pins s σ H Q I hw
 rw [evalPart_some]
 refine thn (h pins s σ H _ I hw) λu s1 zz=>?_
 obtain ⟨x,H1,I1,r1,q1⟩:=zz
 obtain ⟨i,rfl,q⟩:=q1
 obtain ⟨t,rfl⟩:=r1
 exact ⟨some i,H1,I1,.int i t,q⟩
def SlR (X:Cx) (r:V->Option Int->Option Int->Hp->VK->Prop):Prop:=
 ∀ (pins:PNt) (s:Shared) (σ:St) (H:Hp) (x:V) (v vl vu:Value) (lo hi:Option Int) (sl:Addr) (Q:VK),Inv X pins σ H s->yn x v->s.heap.IsSliceOf sl vl vu .none->IsPart vl lo->IsPart vu hi->r x lo hi H Q ->
  ∃ T id,typeLookup (.type T) "__getitem__" = pure (some (.builtin id))/\s.TypeIs v T/\wpAny (model X.prog X.w) X.A (getItem v (.ref sl)) (EP X pins σ Q) X.xe s
def tSl (r:V->Option Int->Option Int->Hp->VK->Prop) (te:TE) (tl th:TO):TE:=λσ H Q=>te σ H λx H1=>tl σ H1 λl H2=>th σ H2 λu H3=>r x l u H3 Q
theorem zJb {r:V->Option Int->Option Int->Hp->VK->Prop} (hr:SlR X r) (he:PE X e te) (hl:PO X lo tl) (hu:PO X hi th):PE X (.Subscript e (.Slice lo hi none p2) pos) (tSl r te tl th):=by
 intro pins s σ H Q I h
 refine Subscript_ (thn (he pins s σ H _ I h) λv s1 zz=>?_)
 obtain ⟨x,H1,I1,r1,q1⟩:=zz
 refine wpAny_Slice (thn (hl pins s1 σ H1 _ I1 q1) λvl s2 ⟨l,H2,I2,pl,q2⟩=>thn (hu pins s2 σ H2 _ I2 q2) λvu s3 zz=>?_)
 obtain ⟨u,H3,I3,pu,q3⟩:=zz
 rw [evalPart_none]
 refine zU6 ?_
 have I4:Inv X pins σ H3 { s3 with heap:=s3.heap.push { cls:=.type "slice",data:=.fields #[vl,vu,.none] } }:=I3.kept (t':=s3.toks) λb ob q=>zU5 _ q
 obtain ⟨T,id,hT,ht,hg⟩:=hr pins { s3 with heap:=s3.heap.push { cls:=.type "slice",data:=.fields #[vl,vu,.none] } } σ H3 x v vl vu l u s3.heap.objs.size Q I4 r1 (Heap.IsSliceOf.new ..) pl pu q3
 show wpAny (model X.prog X.w) X.A (subscriptTail e (.Slice lo hi none p2) v (.ref s3.heap.objs.size)) (EP X pins σ Q) X.xe { s3 with heap:=s3.heap.push { cls:=.type "slice",data:=.fields #[vl,vu,.none] } }
 exact tail_any (ops:=[.ref s3.heap.objs.size,v]) ht hT hg (by with_unfolding_all rfl)
def zPw (xs:List V) (lo hi:Option Int):List V:=(xs.drop (HT.sIx xs.length 0 lo)).take (HT.sIx xs.length xs.length hi-HT.sIx xs.length 0 lo)
theorem zEY (xs:List V) (lo hi:Option Int):(zPw xs lo hi).length<=xs.length:=by
 unfold zPw
 rw [zXI,zXH]
 omega
def rSlT (K:Fg):V->Option Int->Option Int->Hp->VK->Prop:=λx lo hi H Q=>∃ a xs,x = .ref a/\SqT K H a xs /\
 ¬ (HT.sIx xs.length 0 lo=0/\HT.sIx xs.length xs.length hi=xs.length)/\∀ p,H p=none->Q (.ref p) (upd H p (.tup (zPw xs lo hi)))
theorem zTM:SlR X (rSlT X.K):=by
 intro pins s σ H x v vl vu lo hi sl Q I rx hs pl pu h
 obtain ⟨a,xs,rfl,hx,hw,q⟩:=h
 cases rx
 obtain ⟨its,r,ht,hz⟩:=I.tuple hx
 have hlen:its.toArray.size=xs.length:=by rw [zU3];exact r.length.symm
 refine ⟨"tuple",_,PyProof.Rows.slot_tuple_getitem.lookup,ht.typeIs,?_⟩
 refine HT.zDV ht hs pl pu (by rw [hlen];exact hw) ?_ (by rw [hlen];exact hz)
 rw [hlen]
 refine ⟨.ref s.heap.objs.size,_,I.laid (t':=s.toks) (o:=.tup (zPw xs lo hi)) (λb ob q=>zU5 _ q) (zVA _) ?_,rfl,q _ (I.hok.fresh (zVA _))⟩
 exact ⟨zVb (zEY xs lo hi) hz,_,(r.drop (HT.sIx xs.length 0 lo)).take (HT.sIx xs.length xs.length hi-HT.sIx xs.length 0 lo),zAw.new _ _⟩
def rCatT (K:Fg):R2:=λx y H Q=>∃ a b xs ys,x = .ref a/\y = .ref b/\SqT K H a xs/\SqT K H b ys/\xs≠[]/\xs.length+ys.length<=sizeLine /\
 (ys = []->Q (.ref a) H)/\(ys≠[]->∀ p,H p=none->Q (.ref p) (upd H p (.tup (xs++ys))))
theorem yN.nil_iff {xs:List V} {us:List Value} (r:yN xs us):us = []↔xs = []:=by
 cases r with
 |nil=>simp
 |cons _ _=>simp
theorem zQ4:OpR X (binaryOp .Add) (rCatT X.K):=by
 intro pins s σ H x y v u Q I rx ry h
 obtain ⟨a,b,xs,ys,rfl,rfl,ha,hb,hx,hz,q1,q2⟩:=h
 cases rx
 cases ry
 obtain ⟨its,r1,p1,_⟩:=I.tuple ha
 obtain ⟨its2,r2,p2,_⟩:=I.tuple hb
 refine HT.zQ0 p1 p2 (λz=>hx (r1.nil_iff.mp z)) (λz=>⟨.ref a,H,I,rfl,q1 (r2.nil_iff.mp z)⟩) (λz=>?_) (by rw [<- r1.length,<- r2.length];exact hz)
 refine ⟨.ref s.heap.objs.size,_,I.laid (t':=s.toks) (o:=.tup (xs++ys)) (λb ob q=>zU5 _ q) (zVA _) ?_,rfl,q2 (λw=>z (r2.nil_iff.mpr w)) _ (I.hok.fresh (zVA _))⟩
 exact ⟨by rw [zU9];exact hz,_,r1.append r2,zAw.new _ _⟩
end
end L2
namespace L2
open PySem PySem.Spec PyProof.Rows
def ixN (n:Nat) (i:Int):Option Nat:=if 0<=i then (if i<n then some i.toNat else none) else if -(n:Int)<=i then some (i+n).toNat else none
def atI {α:Type} (xs:List α) (i:Int):Option α:=(ixN xs.length i).bind λj=>xs[j]?
theorem zLg {n:Nat} {i:Int} {j:Nat} (h:ixN n i=some j):seqIndex? i n=some j/\j<n/\-(n:Int)<=i/\i<n:=by
 unfold ixN at h
 by_cases h0:0<=i
 ·rw [zVE h0] at h
  by_cases h1:i<n
  ·rw [zVE h1] at h
   have e:i.toNat=j:=zVs h
   exact ⟨by rw [seqIndex_of h0 h1,e],by omega,by omega,h1⟩
  ·rw [zVe h1] at h;cases h
 ·rw [zVe h0] at h
  by_cases h1 : -(n:Int)<=i
  ·rw [zVE h1] at h
   have e:(i+n).toNat=j:=zVs h
   exact ⟨by rw [seqIndex_neg (by omega) h1,e],by omega,h1,by omega⟩
  ·rw [zVe h1] at h;cases h
theorem zIZ {α:Type} {xs:List α} {i:Int} {v:α} (h:atI xs i=some v):∃ j,seqIndex? i xs.length=some j/\xs[j]?=some v/\j<xs.length/\-(xs.length:Int)<=i/\i<xs.length:=by
 unfold atI at h
 cases e:ixN xs.length i with
 |none=>rw [e] at h;cases h
 |some j=>
  rw [e] at h
  obtain ⟨h1,h2,h3,h4⟩:=zLg e
  exact ⟨j,h1,h,h2,h3,h4⟩
def zLh (b:Expr):Prop:=∀ o i,subscripted b false o i=operate [o,i] (getItem o i)
def IxR (X:Cx) (r:R2):Prop:=
 ∀ (value slice:Expr) (pins:PNt) (s:Shared) (σ:St) (H:Hp) (x y:V) (v u:Value) (Q:VK),Inv X pins σ H s->yn x v->yn y u->r x y H Q ->
  subscripted slice false v u=operate [v,u] (getItem v u)->wpAny (model X.prog X.w) X.A (subscriptTail value slice v u) (EP X pins σ Q) X.xe s
def MtR (X:Cx) (id:String) (r:V->List V->Hp->VK->Prop):Prop:=
 ∀ (pins:PNt) (s:Shared) (σ:St) (H:Hp) (x:V) (xs:List V) (v:Value) (us:List Value) (Q:VK),Inv X pins σ H s->yn x v->yN xs us->r x xs H Q ->
  wpAny (model X.prog X.w) X.A (call (.builtin id) (v::us)) (EP X pins σ Q) X.xe s
section
variable {X:Cx} {a b:Expr} {ta tb:TE} {pos:Pos}
theorem IxR.or {r r':R2} (h:IxR X r) (h':IxR X r'):IxR X (λx y H Q=>r x y H Q\/r' x y H Q):=by
 intro value slice pins s σ H x y v u Q I rx ry q hs
 rcases q with q|q
 ·exact h value slice pins s σ H x y v u Q I rx ry q hs
 ·exact h' value slice pins s σ H x y v u Q I rx ry q hs
theorem pe_ix {r:R2} (hr:IxR X r) (ha:PE X a ta) (hb:PE X b tb) (hs:zLh b):PE X (.Subscript a b pos) (tOp r ta tb):=by
 intro pins s σ H Q I h
 exact Subscript_ (binT ha hb I h λv u s2 x y H2 I2 rx ry q=>hr a b pins s2 σ H2 x y v u Q I2 rx ry q (hs _ _))
def rIxL (K:Fg):R2:=λx y H Q=>∃ p xs i v,x = .ref p/\y = .int i/\SqL K H p xs/\atI xs i=some v/\Q v H
def rIxT (K:Fg):R2:=λx y H Q=>∃ p xs i v,x = .ref p/\y = .int i/\SqT K H p xs/\atI xs i=some v/\Q v H
def rIxS:R2:=λx y H Q=>∃ z i c,x = .str z/\y = .int i/\z.length<=sizeLine/\atI z.cps.toList i=some c/\Q (.str ⟨#[c]⟩) H
theorem zQ5:IxR X (rIxL X.K):=by
 intro value slice pins s σ H x y v u Q I rx ry h hs
 obtain ⟨p,xs,i,z,rfl,rfl,hq,he,q⟩:=h
 cases rx
 obtain ⟨t,rfl⟩:=ry
 obtain ⟨its,r,pl,hz⟩:=I.list hq
 obtain ⟨j,h1,h2,h3,h4,h5⟩:=zIZ he
 obtain ⟨w,ew,rw'⟩:=r.get h2
 have hl:=r.length
 have hn:=zET
 have fin:EP X pins σ Q w s:=⟨z,H,I,rw',q⟩
 by_cases h0:0<=i
 ·have hj:i.toNat=j:=by
   rw [seqIndex_of h0 h5] at h1
   exact zVs h1
  exact item_listR pl.isList h0 (by omega) (by rw [hj];simpa using ew) fin hs
 ·have hj:(i+(its.toArray.size:Int)).toNat=j:=by
   rw [seqIndex_neg (by omega) h4] at h1
   rw [zU3,<- hl]
   exact zVs h1
  exact subscriptTail_builtinR (x:=w) pl.isList.typeIs slot_list_getitem.lookup
   (wpAny_getItem_list_neg (Q:=λr s'=>r=w/\EP X pins σ Q r s') pl.isList (by omega) (by rw [zU3]<;>omega) (by omega) (by rw [hj];simpa using ew) ⟨rfl,fin⟩) hs
theorem zTN:IxR X (rIxT X.K):=by
 intro value slice pins s σ H x y v u Q I rx ry h hs
 obtain ⟨p,xs,i,z,rfl,rfl,hq,he,q⟩:=h
 cases rx
 obtain ⟨t,rfl⟩:=ry
 obtain ⟨its,r,pl,hz⟩:=I.tuple hq
 obtain ⟨j,h1,h2,h3,h4,h5⟩:=zIZ he
 obtain ⟨w,ew,rw'⟩:=r.get h2
 have hl:=r.length
 have hn:=zET
 have fin:EP X pins σ Q w s:=⟨z,H,I,rw',q⟩
 exact subscriptTail_builtinR (x:=w) pl.typeIs slot_tuple_getitem.lookup
  (getItem_tuple (j:=j) (Q:=λr s'=>r=w/\EP X pins σ Q r s') pl (by omega) (by omega) (by rw [zU3,<- hl];exact h1) (by simpa using ew) ⟨rfl,fin⟩) hs
theorem zTO:IxR X rIxS:=by
 intro value slice pins s σ H x y v u Q I rx ry h hs
 obtain ⟨z,i,c,rfl,rfl,hz,he,q⟩:=h
 obtain ⟨t,rfl⟩:=rx
 obtain ⟨t',rfl⟩:=ry
 obtain ⟨j,h1,h2,h3,h4,h5⟩:=zIZ he
 have hl:z.cps.toList.length=z.length:=by simp [Str.length]
 rw [hl] at h1 h4 h5
 have hn:=zET
 exact tail_any (typeIs_str s z t) slot_str_getitem.lookup (getItem_str (c:=c) (by
  have e1:decide (i < -(2 ^ 63:Int))=false:=zVh (by omega)
  have e2:decide (i>=2 ^ 63)=false:=zVh (by omega)
  rw [e1,e2,zWv]) (by rw [h1];simpa using h2) ⟨.str ⟨#[c]⟩,H,I.tok _,⟨_,rfl⟩,q⟩) hs
def rIx (K:Fg):R2:=λx y H Q=>rIxL K x y H Q\/rIxT K x y H Q\/rIxS x y H Q
theorem zLi:IxR X (rIx X.K):=zQ5.or (zTN.or zTO)
theorem zKi (its:List Value) (n j:Nat) (u:Value):Obj.mapSeq (·.setIfInBounds j u) { cls:=.type "list",data:=.seq its.toArray n }={ cls:=.type "list",data:=.seq (its.set j u).toArray n }:=by
 simp [Obj.mapSeq]
theorem Inv.lst {pins:PNt} {σ:St} {H:Hp} {s:Shared} {p:Addr} {xs:List V} (I:Inv X pins σ H s) (h:H p=some (.lst xs)) :
  ∃ (its:List Value) (n:Nat),yN xs its/\s.heap.get? p=some { cls:=.type "list",data:=.seq its.toArray n }/\xs.length<=sizeLine:=by
 obtain ⟨z,its,n,r,e⟩:=I.hok p _ h
 exact ⟨its,n,r,e,z⟩
theorem Inv.lstUpd {pins:PNt} {σ:St} {H:Hp} {s:Shared} {p:Addr} {xs ys:List V} {its its':List Value} {n n':Nat} {f:Obj->Obj} (I:Inv X pins σ H s) (h:H p=some (.lst xs))
  (ho:s.heap.get? p=some { cls:=.type "list",data:=.seq its.toArray n }) (hf:f { cls:=.type "list",data:=.seq its.toArray n }={ cls:=.type "list",data:=.seq its'.toArray n' }) (r:yN ys its') (hz:ys.length<=sizeLine) (t:Nat) :
  Inv X pins σ (upd H p (.lst ys)) { s with heap:=s.heap.update p f,toks:=t }:=by
 have e:(s.heap.update p f).get? p=some { cls:=.type "list",data:=.seq its'.toArray n' }:=by
  rw [zXA f ho (by rw [hf]<;>rfl),hf]
 refine I.write (x:=p) (e:=p) (by rw [h];trivial) (.inl rfl) (λb u hb q=>(zWc _ _ (Ne.symm hb)).trans q) ⟨_,e⟩ ?_
 exact ⟨hz,its',n',r,e⟩
def rSetL:V->V->V->Hp->(Hp->Prop)->Prop:=λo i v H Q=>∃ p xs k j,o = .ref p/\i = .int k/\H p=some (.lst xs)/\ixN xs.length k=some j/\Q (upd H p (.lst (xs.set j v)))
theorem zJc:PSet X rSetL:=by
 intro pins s σ H o i v ov iv u Q I ro ri rv h
 obtain ⟨p,xs,k,j,rfl,rfl,hp,hj,q⟩:=h
 cases ro
 obtain ⟨t,rfl⟩:=ri
 obtain ⟨its,n,r,ho,hz⟩:=I.lst hp
 obtain ⟨h1,h2,h3,h4⟩:=zLg hj
 have hl:=r.length
 have hn:=zET
 have I':Inv X pins σ (upd H p (.lst (xs.set j v))) { s with heap:=s.heap.update p (Obj.mapSeq (·.setIfInBounds j u)) }:=
  I.lstUpd hp ho (zKi its n j u) (r.set rv j) (by rw [List.length_set];exact hz) s.toks
 by_cases h0:0<=k
 ·have hk:k.toNat=j:=by
   rw [seqIndex_of h0 h4] at h1
   exact zVs h1
  exact PySem.W.ki_setAt ho h0 (by omega) (by rw [zU3,<- hl];exact h4) (by rw [hk];exact ⟨_,I',q⟩)
 ·have hk:(k+(its.toArray.size:Int)).toNat=j:=by
   rw [seqIndex_neg (by omega) h3] at h1
   rw [zU3,<- hl]
   exact zVs h1
  exact PySem.W.ki_setBack ho (by omega) (by rw [zU3,<- hl];exact h3) (by omega) (by rw [hk];exact ⟨_,I',q⟩)
theorem zHP (lo hi:Option Int) (n:Nat):(sliceBounds lo hi none n).1=((HT.sIx n 0 lo:Nat):Int)/\(sliceBounds lo hi none n).2.1=((HT.sIx n n hi:Nat):Int)/\(sliceBounds lo hi none n).2.2=1:=by
 refine ⟨?_,?_,rfl⟩
 ·cases lo with
  |none=>simp [sliceBounds,HT.sIx]
  |some i=>
   simp only [sliceBounds,HT.sIx,Option.getD_none,show (1:Int)>0 by decide,zVp]
   by_cases h:i<0
   ·simp only [h,zVp]<;>omega
   ·simp only [h,zV8]<;>omega
 ·cases hi with
  |none=>simp [sliceBounds,HT.sIx]
  |some i=>
   simp only [sliceBounds,HT.sIx,Option.getD_none,show (1:Int)>0 by decide,zVp]
   by_cases h:i<0
   ·simp only [h,zVp]<;>omega
   ·simp only [h,zV8]<;>omega
theorem zGP (its:List Value) (lo hi:Option Int):slicePick its.toArray lo hi none=((its.drop (HT.sIx its.length 0 lo)).take (HT.sIx its.length its.length hi-HT.sIx its.length 0 lo)).toArray:=by
 obtain ⟨h1,h2,h3⟩:=zHP lo hi its.toArray.size
 unfold slicePick
 rw [h1,h2,h3]
 simp only [sliceRange_one,pick_run,zU3]<;>rfl
def rSlL (K:Fg):V->Option Int->Option Int->Hp->VK->Prop:=λx lo hi H Q=>∃ a xs,x = .ref a/\SqL K H a xs/\∀ p,H p=none->Q (.ref p) (upd H p (.lst (zPw xs lo hi)))
theorem zQ6:SlR X (rSlL X.K):=by
 intro pins s σ H x v vl vu lo hi sl Q I rx hs pl pu h
 obtain ⟨a,xs,rfl,hx,q⟩:=h
 cases rx
 obtain ⟨its,r,ht,hz⟩:=I.list hx
 have hlen:=r.length
 refine ⟨"list",_,slot_list_getitem.lookup,ht.isList.typeIs,?_⟩
 refine wpAny_getItem_list_slice ht.isList hs pl pu .none (by simp) ?_ (by rw [zU3]<;>omega)
 rw [zGP,<- hlen]
 refine ⟨.ref s.heap.objs.size,_,I.laid (t':=s.toks) (o:=.lst (zPw xs lo hi)) (λb ob q=>zU5 _ q) (zVA _) ?_,rfl,q _ (I.hok.fresh (zVA _))⟩
 exact ⟨zVb (zEY xs lo hi) hz,_,0,(r.drop (HT.sIx xs.length 0 lo)).take (HT.sIx xs.length xs.length hi-HT.sIx xs.length 0 lo),zVO _ rfl⟩
theorem zDx:zAl X (.builtin "len") (λxs H Q=>∃ p ys,xs = [.ref p]/\(SqL X.K H p ys\/SqT X.K H p ys)/\Q (.int ys.length) H):=by
 intro pins s σ H xs us Q I r h
 obtain ⟨p,ys,rfl,hq,q⟩:=h
 obtain ⟨u,rfl,rx⟩:=zDT r
 cases rx
 have hn:=zET
 rcases hq with hq|hq
 ·obtain ⟨its,r',pl,hz⟩:=I.list hq
  have hlen:=r'.length
  exact Calls.call_len_list pl.isList (by simp only [zU3]<;>omega) ⟨.int ys.length,H,I.tok _,⟨s.toks+1,by rw [zU3,hlen]⟩,q⟩
 ·obtain ⟨its,r',pl,hz⟩:=I.tuple hq
  have hlen:=r'.length
  exact len_tuple pl (by simp only [zU3]<;>omega) ⟨.int ys.length,H,I.tok _,⟨s.toks+1,by rw [zU3,hlen]⟩,q⟩
theorem zHQ:zAl X (.builtin "len") (λxs H Q=>∃ z,xs = [.str z]/\z.length<=sizeLine/\Q (.int z.length) H):=by
 intro pins s σ H xs us Q I r h
 obtain ⟨z,rfl,hz,q⟩:=h
 obtain ⟨u,rfl,t,rfl⟩:=zDT r
 have hn:=zET
 exact len_str (by omega) ⟨.int z.length,H,I.tok _,⟨_,rfl⟩,q⟩
theorem zDy:zAl X (.type "list") (λxs H Q=>∃ p ys,xs = [.ref p]/\(SqL X.K H p ys\/SqT X.K H p ys)/\∀ l,H l=none->Q (.ref l) (upd H l (.lst ys))):=by
 intro pins s σ H xs us Q I r h
 obtain ⟨p,ys,rfl,hq,q⟩:=h
 obtain ⟨u,rfl,rx⟩:=zDT r
 cases rx
 have fin:∀ (its:List Value),yN ys its->ys.length<=sizeLine->∀ (h':Heap) (c':Nat),(∀ b o',s.heap.get? b=some o'->h'.get? b=some o') ->
   h'.get? s.heap.objs.size=some { cls:=.type "list",dict:=none,data:=.seq its.toArray c',slots:=#[] }->EP X pins σ Q (.ref s.heap.objs.size) { s with heap:=h' }:=λits r' hz h' c' kp e=>
  ⟨.ref s.heap.objs.size,_,I.laid (t':=s.toks) kp (zVA _) (show qo X.prog X.w _ h' _ (.lst ys) from ⟨hz,its,c',r',e⟩),rfl,q _ (I.hok.fresh (zVA _))⟩
 rcases hq with hq|hq
 ·obtain ⟨its,r',pl,hz⟩:=I.list hq
  have hlen:=r'.length
  obtain ⟨o,ho,hc,n,hd⟩:=pl.isList
  exact call_list_seq p (.inl rfl) ho hc hd (λh' c' kp e=>fin its r' hz h' c' kp e) (by simp only [zU3]<;>omega)
 ·obtain ⟨its,r',pl,hz⟩:=I.tuple hq
  have hlen:=r'.length
  obtain ⟨o,ho,hc,n,hd⟩:=pl
  exact call_list_seq p (.inr rfl) ho hc hd (λh' c' kp e=>fin its r' hz h' c' kp e) (by simp only [zU3]<;>omega)
theorem zCr:zAl X (.type "tuple") (λxs H Q=>∃ p ys,xs = [.ref p]/\((SqL X.K H p ys/\∀ l,H l=none->Q (.ref l) (upd H l (.tup ys)))\/(SqT X.K H p ys/\Q (.ref p) H))):=by
 intro pins s σ H xs us Q I r h
 obtain ⟨p,ys,rfl,h⟩:=h
 obtain ⟨u,rfl,rx⟩:=zDT r
 cases rx
 rcases h with ⟨hq,q⟩|⟨hq,q⟩
 ·obtain ⟨its,r',pl,hz⟩:=I.list hq
  have hlen:=r'.length
  refine call_tuple_list pl.isList (λh' kp=>?_) (by simp only [zU3]<;>omega)
  have I1:Inv X pins σ H { s with heap:=h' }:=I.kept (t':=s.toks) kp
  have I2:Inv X pins σ (upd H h'.objs.size (.tup ys)) { s with heap:=h'.push { cls:=.type "tuple",data:=.seq its.toArray } }:=
   I1.laid (t':=s.toks) (λb o e=>zU5 _ e) (zVA _) (show qo X.prog X.w _ _ _ (.tup ys) from ⟨hz,its,r',zAw.new _ _⟩)
  exact ⟨.ref h'.objs.size,_,I2,rfl,q _ (I1.hok.fresh (zVA _))⟩
 ·obtain ⟨its,r',pl,hz⟩:=I.tuple hq
  exact call_tuple_same pl ⟨.ref p,H,I,rfl,q⟩
def tyV (K:Fg) (T:String) (x:V) (H:Hp):Prop:=match x with
 |.str _=>T = "str"
 |.int _=>T = "int"
 |.ref p=>(T = "list"/\∃ xs,SqL K H p xs)\/(T = "tuple"/\∃ o,K.lookup p=some o/\o.cls = .type "tuple"/\o.dict=none) \/
   (T = "dict"/\((∃ kvs,H p=some (.dK kvs))\/∃ kvs,H p=some (.dT kvs)))\/(T = "set"/\∃ S n,H p=some (.set S n))
 |_=>False
theorem zPx {pins:PNt} {σ:St} {H:Hp} {s:Shared} {T:String} {x:V} {v:Value} (I:Inv X pins σ H s) (r:yn x v) (ty:tyV X.K T x H) :
  s.TypeIs v T/\∀ a,v = .ref a->∃ ob,s.heap.get? a=some ob/\ob.dict=none:=by
 cases x with
 |str z=>
  obtain ⟨t,rfl⟩:=r
  cases (show T = "str" from ty)
  exact ⟨typeIs_str s z t,λ_ e=>nomatch e⟩
 |int i=>
  obtain ⟨t,rfl⟩:=r
  cases (show T = "int" from ty)
  exact ⟨typeIs_int s i t,λ_ e=>nomatch e⟩
 |ref p=>
  cases r
  rcases ty with ⟨rfl,xs,hq⟩|⟨rfl,o,hk,hc,hd⟩|⟨rfl,hk⟩|⟨rfl,S,n,hk⟩
  ·obtain ⟨its,_,pl,_⟩:=I.list hq
   refine ⟨pl.isList.typeIs,λa e=>?_⟩
   cases e
   obtain ⟨o,n,e,c,hd,_⟩:=pl
   exact ⟨o,e,hd⟩
  ·refine ⟨⟨o,I.kIn p o hk,hc⟩,λa e=>?_⟩
   cases e
   exact ⟨o,I.kIn _ o hk,hd⟩
  ·have z:∃ o,s.heap.get? p=some o/\o.ExactDict:=by
    rcases hk with ⟨kvs,hk⟩|⟨kvs,hk⟩
    ·obtain ⟨_,_,_,_,o,_,_,e,ex,_⟩:=I.hok p _ hk
     exact ⟨o,e,ex⟩
    ·obtain ⟨_,_,_,_,o,_,_,e,ex,_⟩:=I.hok p _ hk
     exact ⟨o,e,ex⟩
   obtain ⟨o,e,ex⟩:=z
   refine ⟨⟨o,e,ex.1⟩,λa e2=>?_⟩
   cases e2
   exact ⟨o,e,ex.2.1⟩
  ·obtain ⟨o,_,_,_,e,ex,_⟩:=I.hok p _ hk
   refine ⟨⟨o,e,ex.1⟩,λa e2=>?_⟩
   cases e2
   exact ⟨o,e,ex.2.1⟩
 |_=>exact False.elim ty
def tBM0 (K:Fg) (T:String) (r:V->List V->Hp->VK->Prop) (to:TE):TE:=λσ H Q=>to σ H λx H1=>tyV K T x H1/\r x [] H1 Q
def tBM (K:Fg) (T:String) (r:V->List V->Hp->VK->Prop) (to:TE) (t:TA):TE:=λσ H Q=>to σ H λx H1=>tyV K T x H1/\t σ H1 λxs H2=>r x xs H2 Q
variable {o e:Expr} {es:List Expr} {to:TE} {t:TA} {name:Str} {apos cpos:Pos} {T id:String} {r:V->List V->Hp->VK->Prop}
theorem zTP (pa:PlainAttrs T) (slot:Slot T name id) (hty:typeOf (.builtin id)=pure (.type "method_descriptor")) (hm:MtR X id r) (ho:PE X o to)
  (hbase:attributeBase o name X.env (eval o X.env)=eval o X.env:=by rfl) (hline:(apos.endLine == cpos.line)=true:=by rfl):PE X (.Call (.Attribute o name apos) [] [] cpos) (tBM0 X.K T r to):=by
 intro pins s σ H Q I h
 refine wpAny_Call_method0_late hbase hline (thn (ho pins s σ H _ I h) λv s1 zz=>?_)
 obtain ⟨x,H1,I1,r1,ty,q1⟩:=zz
 obtain ⟨h1,h2⟩:=zPx I1 r1 ty
 exact ⟨T,id,pa,slot,hty,h1,h2,zW0 rfl (PySem.evalArgs_none (hm pins s1 σ H1 x [] v [] Q I1 r1 .nil q1))⟩
theorem zGQ (pa:PlainAttrs T) (slot:Slot T name id) (hty:typeOf (.builtin id)=pure (.type "method_descriptor")) (hm:MtR X id r) (ho:PE X o to) (ha:PA X (e::es) t)
  (hbase:attributeBase o name X.env (eval o X.env)=eval o X.env:=by rfl)
  (hfew:((backTo cpos (starEach (e::es) X.env)).all (λx=>!x.1) && (backToKw cpos (keywordEach [] X.env)).all (λx=>x.1.isSome)
   && decide ((e::es).length+([]:List Keyword).length+(if ([]:List Keyword).isEmpty then 0 else 1)<30))=true:=by rfl)
  (hline:(apos.endLine == cpos.line)=true:=by rfl) (hs:starEach (e::es) X.env=(false,eval e X.env)::starEach es X.env:=by rfl) (hplain:(backTo cpos (starEach es X.env)).any (·.1)=false:=by rfl) :
  PE X (.Call (.Attribute o name apos) (e::es) [] cpos) (tBM X.K T r to t):=by
 intro pins s σ H Q I h
 refine wpAny_Call_method_late hbase hfew hline rfl (thn (ho pins s σ H _ I h) λv s1 zz=>?_)
 obtain ⟨x,H1,I1,r1,ty,q1⟩:=zz
 obtain ⟨h1,h2⟩:=zPx I1 r1 ty
 refine ⟨T,id,pa,slot,hty,h1,h2,?_⟩
 have hA:=ha cpos pins s1 σ H1 _ I1 q1
 rw [hs] at hA ⊢
 refine zW0 (by show (false || (backTo cpos (starEach es X.env)).any (·.1))=false;rw [hplain]<;>rfl) (Calls.evalArgs_plain ?_)
 exact thn hA λus s2 ⟨vs,H2,I2,r2,q2⟩=>hm pins s2 σ H2 x vs v us Q I2 r1 r2 q2
end
end L2
namespace L2
open PySem PySem.Spec PyProof.Rows
def MtM (X:Cx) (id:String) (r:V->List V->Hp->VK->Prop):Prop:=
 ∀ (pins:PNt) (s:Shared) (σ:St) (H:Hp) (x:V) (xs:List V) (v:Value) (us:List Value) (Q:VK),Inv X pins σ H s->yn x v->yN xs us->r x xs H Q ->
  wpAny (model X.prog X.w) X.A (call (.builtin id) (v::us)) (EP X pins σ Q) X.xe s
theorem yN.one:∀ {x:V} {us:List Value},yN [x] us->∃ u,us = [u]/\yn x u
 |_,_,.cons r .nil=>⟨_,rfl,r⟩
theorem yN.two:∀ {x y:V} {us:List Value},yN [x,y] us->∃ u v,us = [u,v]/\yn x u/\yn y v
 |_,_,_,.cons r (.cons q .nil)=>⟨_,_,rfl,r,q⟩
theorem yN.zero:∀ {us:List Value},yN [] us->us = []
 |_,.nil=>rfl
theorem yN.dropLast {xs:List V} {us:List Value} (h:yN xs us):yN xs.dropLast us.dropLast:=by
 induction h with
 |nil=>exact .nil
 |cons r t ih=>
  cases t with
  |nil=>exact .nil
  |cons q t'=>exact .cons r ih
theorem yN.eraseIdx:∀ {xs:List V} {us:List Value} (i:Nat),yN xs us->yN (xs.eraseIdx i) (us.eraseIdx i)
 |_,_,_,.nil=>.nil
 |_,_,0,.cons _ t=>t
 |_,_,i+1,.cons r t=>.cons r (yN.eraseIdx i t)
theorem zKj {α:Type} (l:List α):l.eraseIdx (l.length-1)=l.dropLast:=by
 induction l with
 |nil=>rfl
 |cons a r ih=>
  cases r with
  |nil=>rfl
  |cons b r=>
   have e:(a::b::r).length-1=((b::r).length-1)+1:=by
    have h1:(a::b::r).length=r.length+2:=rfl
    have h2:(b::r).length=r.length+1:=rfl
    omega
   rw [e,List.eraseIdx_cons_succ,ih]
   all_goals rfl
theorem zHR {α:Type}:∀ (l:List α) (i:Nat),(l.eraseIdx i).length<=l.length
 | [],_=>zVA _
 |_::_,0=>zW4 _
 |_::r,i+1=>Nat.succ_le_succ (zHR r i)
section
variable {X:Cx} {pins:PNt} {σ:St} {H:Hp} {s:Shared} {l b:Addr} {xs ys zs:List V}
theorem Inv.lset {its its':List Value} {n:Nat} {f:Array Value->Array Value} {t':Nat} (I:Inv X pins σ H s) (hH:H l=some (.lst xs))
  (e:s.heap.get? l=some { cls:=.type "list",data:=.seq its.toArray n }) (hf:f its.toArray=its'.toArray) (hv:yN ys its') (hz:ys.length<=sizeLine) :
  Inv X pins σ (upd H l (.lst ys)) { s with heap:=s.heap.update l (Obj.mapSeq f),toks:=t' }:=by
 have q:=PySem.IsL.update e f
 rw [hf] at q
 refine I.write (x:=l) (e:=l) (by rw [hH];exact trivial) (.inl rfl) (λb' u hb hu=>(zWc s.heap (Obj.mapSeq f) (Ne.symm hb)).trans hu) ⟨_,q⟩ ?_
 exact ⟨hz,its',_,hv,q⟩
theorem Inv.lnew {its:List Value} {t':Nat} (I:Inv X pins σ H s) (hv:yN ys its) (hz:ys.length<=sizeLine) :
  Inv X pins σ (upd H s.heap.objs.size (.lst ys)) { s with heap:=s.heap.push { cls:=.type "list",data:=.seq its.toArray },toks:=t' }:=
 I.laid (λ_ _ q=>zU5 _ q) (zVA _) ⟨hz,its,0,hv,zVO _ rfl⟩
theorem Inv.fresh (I:Inv X pins σ H s):H s.heap.objs.size=none:=I.hok.fresh (zVA _)
theorem Inv.lstM (I:Inv X pins σ H s) (hH:H l=some (.lst xs)):xs.length<=sizeLine/\∃ (its:List Value) (n:Nat),yN xs its/\xs.length=its.length/\s.heap.get? l=some { cls:=.type "list",data:=.seq its.toArray n }:=by
 obtain ⟨z,its,n,r,e⟩:=I.hok l _ hH
 exact ⟨z,its,n,r,r.length,e⟩
theorem zN6 {n:Nat} (h:n<=sizeLine):Builtin.List.listTooLong n=false:=by
 unfold Builtin.List.listTooLong
 exact zVh (by omega)
end
section
variable {X:Cx}
def zQ7:V->List V->Hp->VK->Prop:=λx vs H Q=>∃ l xs y,x = .ref l/\vs = [y]/\H l=some (.lst xs)/\xs.length<sizeLine/\Q .non (upd H l (.lst (xs ++ [y])))
theorem zBr:MtM X "list.append" zQ7:=by
 intro pins s σ H x vs v us Q I rx rv h
 obtain ⟨l,xs,y,rfl,rfl,hH,hz,q⟩:=h
 cases rx
 obtain ⟨u,rfl,ru⟩:=rv.one
 obtain ⟨z,its,n,r,hl,e⟩:=I.lstM hH
 refine call_meets F.slot_list_append ⟨_,e,rfl⟩ F.entry_list_append (F.args_list_append_2 _ _) (PySem.list_append l its.toArray n u (by rw [zU3];omega)) ⟨e,?_⟩
 refine ⟨.non,_,I.lset (its':=its ++ [u]) hH e (by simp) (r.append (.cons ru .nil)) ?_,rfl,q⟩
 rw [zU9,zVY]
 omega
def zQ8:V->List V->Hp->VK->Prop:=λx vs H Q=>∃ l b xs zs,x = .ref l/\vs = [.ref b]/\H l=some (.lst xs)/\H b=some (.lst zs)/\xs.length+zs.length<=sizeLine/\Q .non (upd H l (.lst (xs++zs)))
theorem zLj:MtM X "list.extend" zQ8:=by
 intro pins s σ H x vs v us Q I rx rv h
 obtain ⟨l,b,xs,zs,rfl,rfl,hH,hB,hz,q⟩:=h
 cases rx
 obtain ⟨u,rfl,ru⟩:=rv.one
 cases ru
 obtain ⟨z,its,n,r,hl,e⟩:=I.lstM hH
 obtain ⟨z2,its2,n2,r2,hl2,e2⟩:=I.lstM hB
 have hsz:its.toArray.size+its2.toArray.size<=sizeLine:=by rw [zU3,zU3];omega
 have hlong:¬ (!its.toArray.isEmpty && Builtin.List.listTooLong (its.toArray.size+its2.toArray.size))=true:=by
  rw [zN6 hsz,Bool.and_false]
  exact zVV
 refine call_meets F.slot_list_extend ⟨_,e,rfl⟩ F.entry_list_extend (F.args_list_extend_2 _ _)
  (AutoSeq1.list_extend_list_list_0 l its.toArray n b its2.toArray n2 hlong (by rw [zU3];omega) (by omega)) ⟨e,e2,?_⟩
 refine ⟨.non,_,I.lset (its':=its++its2) hH e (by simp) (r.append r2) ?_,rfl,q⟩
 rw [zU9]
 omega
def rPop:V->List V->Hp->VK->Prop:=λx vs H Q=>∃ l xs y,x = .ref l/\vs = []/\H l=some (.lst xs)/\xs[xs.length-1]?=some y/\Q y (upd H l (.lst xs.dropLast))
theorem zTQ:MtM X "list.pop" rPop:=by
 intro pins s σ H x vs v us Q I rx rv h
 obtain ⟨l,xs,y,rfl,rfl,hH,hy,q⟩:=h
 cases rx
 have hus:=rv.zero
 subst hus
 obtain ⟨z,its,n,r,hl,e⟩:=I.lstM hH
 obtain ⟨u,hu,ru⟩:=r.get hy
 have hy':its.toArray[its.toArray.size-1]?=some u:=by
  show its.toArray[its.length-1]?=some u
  rw [<- zW9,<- hl]
  exact hu
 refine call_meets F.slot_list_pop ⟨_,e,rfl⟩ F.entry_list_pop (F.args_list_pop_1 _) (MeetsSeq.list_pop_last l its.toArray n u hy' (by rw [zU3];omega)) ⟨e,?_⟩
 refine ⟨y,_,I.lset (its':=its.dropLast) hH e ?_ r.dropLast ?_,ru,q⟩
 ·show its.toArray.eraseIdxIfInBounds (its.toArray.size-1)=its.dropLast.toArray
  rw [zU3,List.eraseIdxIfInBounds_toArray,zKj]
 ·rw [zWo]
  omega
def zTR:V->List V->Hp->VK->Prop:=λx vs H Q=>∃ l xs i k y,x = .ref l/\vs = [.int i]/\H l=some (.lst xs)/\-(2 ^ 63)<=i/\i<2 ^ 63/\seqIndex? i xs.length=some k/\xs[k]?=some y/\Q y (upd H l (.lst (xs.eraseIdx k)))
theorem zN7:MtM X "list.pop" zTR:=by
 intro pins s σ H x vs v us Q I rx rv h
 obtain ⟨l,xs,i,k,y,rfl,rfl,hH,h1,h2,hk,hy,q⟩:=h
 cases rx
 obtain ⟨u,rfl,ru⟩:=rv.one
 obtain ⟨t,rfl⟩:=ru
 obtain ⟨z,its,n,r,hl,e⟩:=I.lstM hH
 obtain ⟨w,hw,rw'⟩:=r.get hy
 refine call_meets F.slot_list_pop ⟨_,e,rfl⟩ F.entry_list_pop (F.args_list_pop_2 _ _)
  (MeetsSeq.list_pop_at l its.toArray n i t k w (fitsIndex_both h1 h2) (by rw [zU3,<- hl];exact hk) (by rw [<- zW9];exact hw) (by rw [zU3];omega)) ⟨e,?_⟩
 refine ⟨y,_,I.lset (its':=its.eraseIdx k) hH e ?_ (r.eraseIdx k) ?_,rw',q⟩
 ·show its.toArray.eraseIdxIfInBounds k=(its.eraseIdx k).toArray
  rw [List.eraseIdxIfInBounds_toArray]
 ·have:=zHR xs k
  omega
end
section
variable {prog:Program} {w:World} {A:Around} {E:VSt} {s:Shared}
end
section
variable {X:Cx}
end
end L2
namespace L2
open PySem PySem.Spec PyProof.Rows
section
variable {κ:Type} [DecidableEq κ]
def zAm (kvs:List (κ×V)) (k:κ):Option V:=(kvs.find? λkv=>decide (kv.1=k)).map (·.2)
def zCQ (kvs:List (κ×V)) (k:κ) (v:V):List (κ×V):=
 if (kvs.any λkv=>decide (kv.1=k))=true then kvs.map (λkv=>if kv.1=k then (kv.1,v) else kv) else kvs ++ [(k,v)]
theorem zEA {p:κ×V} {r:List (κ×V)} {k:κ} (e:p.1=k):zAm (p::r) k=some p.2:=by simp [zAm,zVU,e]
theorem zCs {p:κ×V} {r:List (κ×V)} {k:κ} (e:¬ p.1=k):zAm (p::r) k=zAm r k:=by simp [zAm,zVU,e]
theorem zGR (k:κ):∀ kvs:List (κ×V),(kvs.any λkv=>decide (kv.1=k))=(zAm kvs k).isSome
 | []=>rfl
 |p::r=>by
  rw [zWO]
  by_cases e:p.1=k
  ·simp only [zEA e,zVz e,Bool.true_or,Option.isSome_some]
  ·rw [zCs e,zVh e,Bool.false_or];exact zGR k r
theorem zAJ (kvs:List (κ×V)) (k:κ) (v:V):(zCQ kvs k v).length<=kvs.length+1:=by
 unfold zCQ
 split
 ·rw [zU4];omega
 ·rw [zU9,zUv,zVC];omega
theorem zJd {kvs:List (κ×V)} {k:κ} (v:V) (h:zAm kvs k=none):zCQ kvs k v=kvs ++ [(k,v)]:=by
 unfold zCQ
 rw [zGR,h]
 exact zVe (by decide)
theorem zFR.isSome_eq {o:Option V} {u:Option Value} (r:zFR o u):o.isSome=u.isSome:=by
 cases o with
 |none=>cases u with
  |none=>rfl
  |some _=>exact (show False from r).elim
 |some _=>cases u with
  |none=>exact (show False from r).elim
  |some _=>rfl
theorem zFR.getD {o:Option V} {u:Option Value} {d:V} {d':Value} (r:zFR o u) (rd:yn d d'):yn (o.getD d) (u.getD d'):=by
 cases o with
 |none=>cases u with
  |none=>exact rd
  |some _=>exact (show False from r).elim
 |some _=>cases u with
  |none=>exact (show False from r).elim
  |some _=>exact r
theorem KV.val {kvs:List (κ×V)} {vs:List (κ×Value)} (r:KV kvs vs) (k:κ):zFR (zAm kvs k) (valueAt vs k):=by
 unfold KV at r
 induction r with
 |nil=>exact True.intro
 |@cons p q ps qs h t ih=>
  obtain ⟨h1,h2⟩:=h
  by_cases e:p.1=k
  ·have e':q.1=k:=h1.symm.trans e
   have b:valueAt (q::qs) k=some q.2:=by simp [valueAt,zVU,e']
   rw [zEA e,b];exact h2
  ·have e':¬ q.1=k:=λz=>e (h1.trans z)
   have b:valueAt (q::qs) k=valueAt qs k:=by simp [valueAt,zVU,e']
   rw [zCs e,b];exact ih
theorem KV.any {kvs:List (κ×V)} {vs:List (κ×Value)} (r:KV kvs vs) (k:κ):(kvs.any λkv=>decide (kv.1=k))=vs.any λkv=>decide (kv.1=k):=by
 unfold KV at r
 induction r with
 |nil=>rfl
 |cons h t ih=>rw [zWO,zWO,ih,h.1]
theorem KV.repl {kvs:List (κ×V)} {vs:List (κ×Value)} (r:KV kvs vs) (k:κ) {y:V} {u:Value} (ry:yn y u) :
  KV (kvs.map λkv=>if kv.1=k then (kv.1,y) else kv) (vs.map λkv=>if kv.1=k then (kv.1,u) else kv):=by
 unfold KV at r ⊢
 induction r with
 |nil=>exact .nil
 |@cons p q ps qs h t ih=>
  rw [zUx,zUx]
  refine .cons ?_ ih
  obtain ⟨h1,h2⟩:=h
  by_cases e:p.1=k
  ·rw [zVE e,zVE (h1.symm.trans e)];exact ⟨h1,ry⟩
  ·rw [zVe e,zVe (λz=>e (h1.trans z))];exact ⟨h1,h2⟩
theorem KV.put {kvs:List (κ×V)} {vs:List (κ×Value)} (r:KV kvs vs) (k:κ) {y:V} {u:Value} (ry:yn y u):KV (zCQ kvs k y) (stored vs k u):=by
 unfold zCQ stored
 rw [r.any k]
 by_cases e:(vs.any λkv=>decide (kv.1=k))=true
 ·rw [zVE e,zVE e];exact r.repl k ry
 ·rw [zVe e,zVe e];exact Paired.snoc r ⟨rfl,ry⟩
theorem KV.length {kvs:List (κ×V)} {vs:List (κ×Value)} (r:KV kvs vs):kvs.length=vs.length:=zWl r
end
theorem zGS {P:Program} {w:World} {k:Key} {u:Value} (r:yn (kV k) u):(z6 P w).is k u=true:=by
 cases k with
 |inl i=>obtain ⟨t,e⟩:=(show ∃ t,u=Value.int i t from r);subst e;exact zIU P w i t
 |inr x=>obtain ⟨t,e⟩:=(show ∃ t,u=Value.str x t from r);subst e;exact zIV P w x t
theorem zTS {a b:Key} (e:kV a=kV b):a=b:=by
 cases a with
 |inl i=>cases b with
  |inl j=>have e':V.int i=V.int j:=e;injection e' with e';rw [e']
  |inr y=>exact nomatch (show V.int i=V.str y from e)
 |inr x=>cases b with
  |inl j=>exact nomatch (show V.str x=V.int j from e)
  |inr y=>have e':V.str x=V.str y:=e;injection e' with e';rw [e']
theorem zLk:∀ {a b:List Key},a.map kV=b.map kV->a=b
 | [],[],_=>rfl
 | [],_::_,e=>by simp at e
 |_::_,[],e=>by simp at e
 |x::xs,y::ys,e=>by
  rw [zUx,zUx] at e
  injection e with e1 e2
  rw [zTS e1,zLk e2]
theorem zHS {P:Program} {w:World}:∀ {ks:List Key} {us:List Value},yN (ks.map kV) us->ItemsAre (z6 P w) ks us
 | [],_,r=>by rw [zV7] at r;cases r;exact .nil
 |k::ks,_,r=>by
  rw [zUx] at r
  cases r with
  |cons h t=>exact .cons (zGS h) (zHS t)
abbrev KT (H:Hp):List (List Key×V)->List (List Key×Addr×Value)->Prop:=Paired λp q=>p.1=q.1/\H q.2.1=some (.tup (p.1.map kV))/\yn p.2 q.2.2
theorem KT.val {H:Hp} {kvs:List (List Key×V)} {xs:List (List Key×Addr×Value)} (r:KT H kvs xs) (k:List Key):zFR (zAm kvs k) ((atKey xs k).map (·.2)):=by
 induction r with
 |nil=>exact True.intro
 |@cons p q ps qs h t ih=>
  obtain ⟨h1,_,h2⟩:=h
  by_cases e:p.1=k
  ·have e':q.1=k:=h1.symm.trans e
   have b:atKey (q::qs) k=some q.2:=by simp [atKey,zVU,e']
   rw [zEA e,b];exact h2
  ·have e':¬ q.1=k:=λz=>e (h1.trans z)
   have b:atKey (q::qs) k=atKey qs k:=by simp [atKey,zVU,e']
   rw [zCs e,b];exact ih
theorem KT.repl {H:Hp} {kvs:List (List Key×V)} {xs:List (List Key×Addr×Value)} (r:KT H kvs xs) (k:List Key) {y:V} {u:Value} (ry:yn y u) :
  KT H (kvs.map λkv=>if kv.1=k then (kv.1,y) else kv) (xs.map (putAt k u)):=by
 induction r with
 |nil=>exact .nil
 |@cons p q ps qs h t ih=>
  rw [zUx,zUx]
  refine .cons ?_ ih
  obtain ⟨h1,h2,h3⟩:=h
  unfold putAt
  by_cases e:p.1=k
  ·rw [zVE e,zVE (h1.symm.trans e)];exact ⟨h1,h2,ry⟩
  ·rw [zVe e,zVe (λz=>e (h1.trans z))];exact ⟨h1,h2,h3⟩
theorem KT.put {H:Hp} {kvs:List (List Key×V)} {xs:List (List Key×Addr×Value)} (r:KT H kvs xs) (k:List Key) {b:Addr} {y:V} {u:Value} (hb:H b=some (.tup (k.map kV))) (ry:yn y u) :
  KT H (zCQ kvs k y) (storedH xs k b u):=by
 have e:(kvs.any λkv=>decide (kv.1=k))=(atKey xs k).isSome:=by
  rw [zGR,(r.val k).isSome_eq,Option.isSome_map]
 unfold zCQ storedH
 rw [e]
 by_cases q:(atKey xs k).isSome=true
 ·rw [zVE q,zVE q];exact r.repl k ry
 ·rw [zVe q,zVe q];exact Paired.snoc r ⟨rfl,hb,ry⟩
theorem KT.keeps {H H':Hp} {kvs:List (List Key×V)} {xs:List (List Key×Addr×Value)} (r:KT H kvs xs) (ht:∀ b ys,H b=some (.tup ys)->H' b=some (.tup ys)):KT H' kvs xs:=
 Paired.mapP r λ_ _ z=>⟨z.1,ht _ _ z.2.1,z.2.2⟩
section
variable {P:Program} {w:World} {H:Hp} {h:Heap} {a:Addr}
theorem zTT {u:HO} (ok:HOk P w H h) (e:Rd H a u):qo P w H h a u:=e.ok ok
theorem zHT {kvs:List (Key×V)} (ok:HOk P w H h) (e:Rd H a (.dK kvs)):kvs.length<=sizeLine/\(a == sysModules)=false/\∃ vs,KV kvs vs/\h.DictOf (z6 P w) a vs:=
 show qo P w H h a (.dK kvs) from zTT ok e
theorem zQ9 {kvs:List (Key×V)} (ok:HOk P w H h) (e:H a=some (.dK kvs)):kvs.length<=sizeLine/\(a == sysModules)=false/\∃ vs,KV kvs vs/\h.DictOf (z6 P w) a vs:=zHT ok (.inl e)
theorem zCt {ks:List Key} (ok:HOk P w H h) (e:H a=some (.tup (ks.map kV))):(tupleKind (z6 P w)).is h ks a:=by
 obtain ⟨_,its,r,o,h1,h2,n,h3,_⟩:=(show qo P w H h a (.tup (ks.map kV)) from ok a _ e)
 exact ⟨o,its.toArray,n,h1,h2,h3,by simpa using zHS r⟩
theorem zHU {kvs:List (List Key×V)} (ok:HOk P w H h) (e:Rd H a (.dT kvs)):kvs.length<=sizeLine/\(a == sysModules)=false /\
  ∃ xs,KT H kvs xs/\h.DictOfH (tupleKind (z6 P w)) a xs:=by
 obtain ⟨z,y,xs,r,o,es,ep,h1,h2,h3,h4,h5⟩:=(show qo P w H h a (.dT kvs) from zTT ok e)
 refine ⟨z,y,xs,r,o,es,ep,h1,h2,h3,h4,λx hx=>?_,h5⟩
 have all:∀ {l:List (List Key×V)} {m:List (List Key×Addr×Value)},KT H l m->∀ x∈m,(tupleKind (z6 P w)).is h x.1 x.2.1:=by
  intro l m q
  induction q with
  |nil=>intro x hx;exact nomatch hx
  |@cons p q ps qs hq t ih=>
   intro x hx
   rcases zU1.mp hx with e|hx
   ·subst e
    exact zCt ok (by rw [<- hq.1];exact hq.2.1)
   ·exact ih x hx
 exact all r x hx
theorem zRA {kvs:List (List Key×V)} (ok:HOk P w H h) (e:H a=some (.dT kvs)):kvs.length<=sizeLine/\(a == sysModules)=false /\
  ∃ xs,KT H kvs xs/\h.DictOfH (tupleKind (z6 P w)) a xs:=zHU ok (.inl e)
end
def zDJ (H:Hp) (a:Addr) (y:V) (r:Option V):Prop:=
 (∃ kvs k,Rd H a (.dK kvs)/\y=kV k/\r=zAm kvs k)\/∃ kvs k b,Rd H a (.dT kvs)/\y = .ref b/\H b=some (.tup (k.map kV))/\r=zAm kvs k
def zLl (H:Hp) (a:Addr) (y v:V) (H':Hp):Prop:=
 (∃ kvs k,H a=some (.dK kvs)/\y=kV k/\kvs.length<sizeLine/\H'=upd H a (.dK (zCQ kvs k v))) \/
 ∃ kvs k b,H a=some (.dT kvs)/\y = .ref b/\H b=some (.tup (k.map kV))/\kvs.length<sizeLine/\H'=upd H a (.dT (zCQ kvs k v))
theorem zDJ.k {H:Hp} {a:Addr} {kvs:List (Key×V)} {k:Key} (e:H a=some (.dK kvs)):zDJ H a (kV k) (zAm kvs k):=.inl ⟨kvs,k,.inl e,rfl,rfl⟩
theorem zDJ.t {H:Hp} {a b:Addr} {kvs:List (List Key×V)} {k:List Key} (e:H a=some (.dT kvs)) (eb:H b=some (.tup (k.map kV))):zDJ H a (.ref b) (zAm kvs k):=.inr ⟨kvs,k,b,.inl e,rfl,eb,rfl⟩
theorem zLl.k {H:Hp} {a:Addr} {kvs:List (Key×V)} {k:Key} {v:V} (e:H a=some (.dK kvs)) (hl:kvs.length<sizeLine):zLl H a (kV k) v (upd H a (.dK (zCQ kvs k v))):=.inl ⟨kvs,k,e,rfl,hl,rfl⟩
theorem zLl.t {H:Hp} {a b:Addr} {kvs:List (List Key×V)} {k:List Key} {v:V} (e:H a=some (.dT kvs)) (eb:H b=some (.tup (k.map kV))) (hl:kvs.length<sizeLine) :
  zLl H a (.ref b) v (upd H a (.dT (zCQ kvs k v))):=.inr ⟨kvs,k,b,e,rfl,eb,hl,rfl⟩
section
variable {X:Cx} {pins:PNt} {σ:St} {H:Hp} {s:Shared} {a:Addr} {y v:V} {u r:Value} {o:Option V} {A:Around} {E:VSt}
theorem Inv.big (I:Inv X pins σ H s):sysModules<s.heap.objs.size:=by
 have h:mainGlobals<s.heap.objs.size:=(I.mod.glob.keeps I.bk).lt
 exact Nat.lt_trans (by decide) h
theorem zLm {Q:VSt} (hu:A.units+1<cLine) (I:Inv X pins σ H s) (g:zDJ H a y (some v)) (ry:yn y u) (h:∀ w' s',Inv X pins σ H s'->yn v w'->Q w' s') :
  wpAny (model X.prog X.w) A (getItem (.ref a) u) Q E s:=by
 rcases g with ⟨kvs,k,e,ey,l⟩|⟨kvs,k,b,e,ey,eb,l⟩
 ·subst ey
  obtain ⟨z,hd,vs,rel,dd⟩:=zHT I.hok e
  obtain ⟨w',hw,rw'⟩:=zFR.some_of (v:=v) (o:=valueAt vs k) (by rw [l];exact rel.val k)
  exact wpAny_getItem_of (zGS ry) dd.mapOf hw (h w' _ (I.tok _) rw')
 ·subst ey
  cases (show u=Value.ref b from ry)
  obtain ⟨z,hd,xs,rel,dd⟩:=zHU I.hok e
  obtain ⟨w',hw,rw'⟩:=zFR.some_of (v:=v) (o:=(atKey xs k).map (·.2)) (by rw [l];exact rel.val k)
  obtain ⟨p,hp,hp2⟩:=zUt.mp hw
  refine wpAny_getItem_heap (zWG hu) (zCt I.hok eb) dd hp ?_
  rw [hp2]
  exact h w' _ (I.tok _) rw'
theorem d_in {Q:VSt} (hu:A.units+1<cLine) (I:Inv X pins σ H s) (g:zDJ H a y o) (ry:yn y u) (h:∀ s',Inv X pins σ H s'->Q (.bool o.isSome) s') :
  wpAny (model X.prog X.w) A (compareOp .In u (.ref a)) Q E s:=by
 rcases g with ⟨kvs,k,e,ey,l⟩|⟨kvs,k,b,e,ey,eb,l⟩
 ·subst ey
  obtain ⟨z,hd,vs,rel,dd⟩:=zHT I.hok e
  refine wpAny_in_of (zGS ry) hd dd.mapOf ?_
  rw [<- (rel.val k).isSome_eq,<- l]
  exact h _ (I.tok _)
 ·subst ey
  cases (show u=Value.ref b from ry)
  obtain ⟨z,hd,xs,rel,dd⟩:=zHU I.hok e
  refine wpAny_in_heap (zWG hu) (zCt I.hok eb) hd dd ?_
  have q:=(rel.val k).isSome_eq
  rw [Option.isSome_map] at q
  rw [<- q,<- l]
  exact h _ (I.tok _)
theorem zRB {Q:VSt} (hu:A.units+1<cLine) (I:Inv X pins σ H s) (g:zDJ H a y o) (ry:yn y u) (h:∀ s',Inv X pins σ H s'->Q (.bool (!o.isSome)) s') :
  wpAny (model X.prog X.w) A (compareOp .NotIn u (.ref a)) Q E s:=by
 rcases g with ⟨kvs,k,e,ey,l⟩|⟨kvs,k,b,e,ey,eb,l⟩
 ·subst ey
  obtain ⟨z,hd,vs,rel,dd⟩:=zHT I.hok e
  refine wpAny_notIn_of (zGS ry) hd dd.mapOf ?_
  rw [<- (rel.val k).isSome_eq,<- l]
  exact h _ (I.tok _)
 ·subst ey
  cases (show u=Value.ref b from ry)
  obtain ⟨z,hd,xs,rel,dd⟩:=zHU I.hok e
  refine wpAny_notIn_heap (zWG hu) (zCt I.hok eb) hd dd ?_
  have q:=(rel.val k).isSome_eq
  rw [Option.isSome_map] at q
  rw [<- q,<- l]
  exact h _ (I.tok _)
theorem zEZ {h':Heap} {t':Nat} {ob:HO} (I:Inv X pins σ H s) (mu:Mut (H a)) (hs:Heap.SameBut a s.heap h') (he:∃ q,h'.get? a=some q) (new:qo X.prog X.w (upd H a ob) h' a ob) :
  Inv X pins σ (upd H a ob) { s with heap:=h',toks:=t' }:=
 I.write (x:=a) (e:=a) mu (.inl rfl) (λb q hb z=>(hs.2 b hb).trans z) he new
theorem zPy {P:Program} {w:World} {H':Hp} {h':Heap} {kvs:List (Key×V)} {vs:List (Key×Value)} (z:kvs.length<=sizeLine) (hd:(a == sysModules)=false) (rel:KV kvs vs) (dd:h'.DictOf (z6 P w) a vs) :
  qo P w H' h' a (.dK kvs):=⟨z,hd,vs,rel,dd⟩
theorem zLn {H':Hp} {Q:Unit->Shared->Prop} (hu:A.units+1<cLine) (I:Inv X pins σ H s) (g:zLl H a y v H') (ry:yn y u) (rv:yn v r) (h:∀ s',Inv X pins σ H' s'->Q () s') :
  wpAny (model X.prog X.w) A (setItem (.ref a) u r) Q E s:=by
 rcases g with ⟨kvs,k,e,ey,l,eH⟩|⟨kvs,k,b,e,ey,eb,l,eH⟩
 ·subst ey eH
  obtain ⟨z,hd,vs,rel,dd⟩:=zQ9 I.hok e
  have hz:vs.length<=sizeLine:=by rw [<- rel.length];exact z
  have hl:(zCQ kvs k v).length<=sizeLine:=by have:=zAJ kvs k v;omega
  refine wpAny_setItem_pairs (hsz:=hz) (zGS ry) dd λh' dd' hs=>h _ ?_
  have he:∃ q,h'.get? a=some q:=let ⟨q,_,_,hq,_⟩:=dd';⟨q,hq⟩
  exact zEZ I (by rw [e];exact True.intro) hs he (zPy hl hd (rel.put k rv) dd')
 ·subst ey eH
  cases (show u=Value.ref b from ry)
  obtain ⟨z,hd,xs,rel,dd⟩:=zRA I.hok e
  have hz:xs.length<=sizeLine:=by rw [<- zWl rel];exact z
  have hl:(zCQ kvs k v).length<=sizeLine:=by have:=zAJ kvs k v;omega
  refine wpAny_setItem_heap (hsz:=hz) (zWG hu) (zCt I.hok eb) dd λh' dd' hs=>h _ ?_
  obtain ⟨q,es,ep,hq,h2,h3,h4,_,h5⟩:=dd'
  refine zEZ I (by rw [e];exact True.intro) hs ⟨q,hq⟩ ⟨hl,hd,_,(rel.put k eb rv).keeps λc ys ec=>?_,q,es,ep,hq,h2,h3,h4,h5⟩
  rw [zJ (zQf ec e (λz=>nomatch z))]
  exact ec
end
section
variable {X:Cx} {pins:PNt} {σ:St} {H:Hp} {s:Shared} {a:Addr} {kvs:List (Key×V)} {k:Key} {u:Value} {A:Around} {E:VSt}
end
def zSo (i:Expr):Prop:=∀ ov iv,subscripted i false ov iv=operate [ov,iv] (getItem ov iv)
theorem zRC {prog:Program} {w:World} {A:Around} {E:VSt} {s:Shared} {env:Env} {value slice:Expr} {pos:Pos} {T id:String} {Q:VSt}
  (hl:typeLookup (.type T) "__getitem__" = pure (some (.builtin id))) (hs:zSo slice)
  (h:wpAny (model prog w) A (eval value env) (λo s₁=>wpAny (model prog w) A (eval slice env) (λi s₂=>s₂.TypeIs o T/\wpAny (model prog w) A (getItem o i) Q E s₂) E s₁) E s) :
  wpAny (model prog w) A (eval (.Subscript value slice pos) env) Q E s:=by
 refine Subscript_ (zVk h (λo s₁ h₁=>zVk h₁ (λi s₂ h₂=>?_) λ_ _ x=>x) λ_ _ x=>x)
 obtain ⟨hT,h₂⟩:=h₂
 unfold subscriptTail
 refine zUz ?_
 rw [getitemInPython_of_ne hT.not_modules]
 refine zUz (wpAny_specialOf hT hl ?_)
 have fin:wpAny (model prog w) A (subscripted slice false o i) (λr s₃=>wpAny (model prog w) A (letTemporaryGo value o r >>= λ_=>pure r) Q E s₃) E s₂:=by
  rw [hs o i]
  exact wpAny_operating (zVk h₂ (λr s₃ h₃=>zUz (wpAny_letTemporaryGo (zU6 h₃))) λ_ _ x=>x)
 first
  |exact zU6 (zUz fin)
  |exact zUz (zU6 (zUz fin))
  |exact zUz fin
theorem zIa {X:Cx} {pins:PNt} {σ:St} {H:Hp} {s:Shared} {a:Addr} {y:V} {o:Option V} (I:Inv X pins σ H s) (g:zDJ H a y o):s.TypeIs (.ref a) "dict":=by
 rcases g with ⟨kvs,k,e,_,_⟩|⟨kvs,k,b,e,_,_,_⟩
 ·obtain ⟨_,_,vs,_,dd⟩:=zHT I.hok e
  exact dd.typeIs
 ·obtain ⟨_,_,xs,_,dd⟩:=zHU I.hok e
  exact dd.typeIs
def tDGet (td ty:TE):TE:=λσ H Q=>td σ H λx H1=>ty σ H1 λy H2=>∃ a v,x = .ref a/\zDJ H2 a y (some v)/\Q v H2
def tDIn (ty td:TE):TE:=λσ H Q=>ty σ H λy H1=>td σ H1 λx H2=>∃ a o,x = .ref a/\zDJ H2 a y o/\Q (.bl o.isSome) H2
def zRD (ty td:TE):TE:=λσ H Q=>ty σ H λy H1=>td σ H1 λx H2=>∃ a o,x = .ref a/\zDJ H2 a y o/\Q (.bl (!o.isSome)) H2
def sDPut (td ty tv:TE):TS:=λD σ H=>tv σ H λv H1=>td σ H1 λx H2=>ty σ H2 λy H3=>∃ a H4,x = .ref a/\zLl H3 a y v H4/\D.nx σ H4
section
variable {X:Cx} {o i e value:Expr} {pos pos' tpos:Pos} {td ty tv:TE}
theorem zGT (hu:X.A.units+1<cLine) (ho:PE X o td) (hi:PE X i ty) (hs:zSo i):PE X (.Subscript o i pos) (tDGet td ty):=by
 intro pins s σ H Q I h
 refine zRC PySem.F.slot_dict_getitem.lookup hs (thn (ho pins s σ H _ I h) λu s1 ⟨x,H1,I1,rx,q1⟩=>thn (hi pins s1 σ H1 _ I1 q1) λiv s2 zz=>?_)
 obtain ⟨y,H2,I2,ry,a,v,ex,g,q2⟩:=zz
 subst ex
 obtain rfl:u=Value.ref a:=rx
 exact ⟨zIa I2 g,zLm hu I2 g ry λw' s3 I3 rw'=>⟨v,H2,I3,rw',q2⟩⟩
theorem zPz (hu:X.A.units+1<cLine) (hi:PE X i ty) (ho:PE X o td):PC X .In i o (tDIn ty td):=by
 intro pins s σ H Q I h
 refine thn (hi pins s σ H _ I h) λiv s1 ⟨y,H1,I1,ry,q1⟩=>thn (ho pins s1 σ H1 _ I1 q1) λu s2 zz=>?_
 obtain ⟨x,H2,I2,rx,a,ov,ex,g,q2⟩:=zz
 subst ex
 obtain rfl:u=Value.ref a:=rx
 exact d_in hu I2 g ry λs3 I3=>⟨.bl ov.isSome,H2,I3,rfl,q2⟩
theorem zLo (hu:X.A.units+1<cLine) (hi:PE X i ty) (ho:PE X o td):PC X .NotIn i o (zRD ty td):=by
 intro pins s σ H Q I h
 refine thn (hi pins s σ H _ I h) λiv s1 ⟨y,H1,I1,ry,q1⟩=>thn (ho pins s1 σ H1 _ I1 q1) λu s2 zz=>?_
 obtain ⟨x,H2,I2,rx,a,ov,ex,g,q2⟩:=zz
 subst ex
 obtain rfl:u=Value.ref a:=rx
 exact zRB hu I2 g ry λs3 I3=>⟨.bl (!ov.isSome),H2,I3,rfl,q2⟩
theorem zLp (hu:X.A.units+1<cLine) (ho:PE X o td) (hi:PE X i ty) (hv:PE X value tv) (hs:swapsWith value (some (.Subscript o i pos')) pos.line X.env=pure false) :
  PS X (.Assign [.Subscript o i pos'] value pos) (sDPut td ty tv):=by
 intro pins s σ H D I h
 refine wpAny_Assign_Subscript (thn (hv pins s σ H _ I h) λr s1 ⟨v,H1,I1,rv,q1⟩=>thn (ho pins s1 σ H1 _ I1 q1) λu s2 ⟨x,H2,I2,rx,q2⟩=>thn (hi pins s2 σ H2 _ I2 q2) λiv s3 ⟨y,H3,I3,ry,a,H4,ex,g,q3⟩=>?_) hs
 subst ex
 obtain rfl:u=Value.ref a:=rx
 exact zLn hu I3 g ry rv λs4 I4=>⟨σ,H4,I4,q3⟩
end
theorem zN8 {P:Program} {w:World} {H:Hp} (h:Heap) (hb:sysModules<h.objs.size):qo P w H (h.push { cls:=.type "dict",data:=.dict #[] }) h.objs.size (.dK []):=
 ⟨zWS _,zVd.mpr (Ne.symm (zVN hb)),[],.nil,Heap.DictOf.new h⟩
theorem zJe {P:Program} {w:World} {H:Hp} (h:Heap) (hb:sysModules<h.objs.size):qo P w H (h.push { cls:=.type "dict",data:=.dict #[] }) h.objs.size (.dT []):=
 ⟨zWS _,zVd.mpr (Ne.symm (zVN hb)),[],.nil,_,#[],0,zVO _ rfl,⟨rfl,rfl,rfl⟩,rfl,rfl,List.nodup_nil⟩
def zTU:TE:=λ_ H Q=>∀ p,H p=none->Q (.ref p) (upd H p (.dK []))
def zTV:TE:=λ_ H Q=>∀ p,H p=none->Q (.ref p) (upd H p (.dT []))
section
variable {X:Cx} {pos:Pos}
theorem zJf:PE X (.Dict [] [] pos) zTU:=λpins s σ H Q I h=>
 wpAny_Dict_empty ⟨.ref s.heap.objs.size,_,I.laid (a:=s.heap.objs.size) (o:=.dK []) (t':=s.toks) (λ_ _ q=>zU5 _ q) (zVA _) (zN8 s.heap I.big),rfl,h _ (I.hok.fresh (zVA _))⟩
theorem zN9:PE X (.Dict [] [] pos) zTV:=λpins s σ H Q I h=>
 wpAny_Dict_empty ⟨.ref s.heap.objs.size,_,I.laid (a:=s.heap.objs.size) (o:=.dT []) (t':=s.toks) (λ_ _ q=>zU5 _ q) (zVA _) (zJe s.heap I.big),rfl,h _ (I.hok.fresh (zVA _))⟩
end
structure M2 (X:Cx) (o:Expr) (m:Str) (apos:Pos) (e f:Expr) (cpos:Pos):Prop where
 base:attributeBase o m X.env (eval o X.env)=eval o X.env
 few:((backTo cpos (starEach [e,f] X.env)).all (λx=>!x.1) && (backToKw cpos (keywordEach [] X.env)).all (λx=>x.1.isSome)
  && decide (([e,f]:List Expr).length+([]:List Keyword).length+(if ([]:List Keyword).isEmpty then 0 else 1)<30))=true
 line:(apos.endLine == cpos.line)=true
 trees:backTo cpos (starEach [e,f] X.env) = [(false,eval e X.env),(false,eval f X.env)]
def IsD (H:Hp) (a:Addr):Prop:=(∃ kvs,Rd H a (.dK kvs))\/∃ kvs,Rd H a (.dT kvs)
theorem zTW {X:Cx} {pins:PNt} {σ:St} {H:Hp} {s:Shared} {a:Addr} (I:Inv X pins σ H s) (d:IsD H a) :
  s.TypeIs (.ref a) "dict"/\(∀ b,Value.ref a = .ref b->∃ ob,s.heap.get? b=some ob/\ob.dict=none)/\(a == sysModules)=false:=by
 rcases d with ⟨kvs,e⟩|⟨kvs,e⟩
 ·obtain ⟨_,hd,vs,_,dd⟩:=zHT I.hok e
  refine ⟨dd.typeIs,λb q=>?_,hd⟩
  cases q
  obtain ⟨ob,_,_,h1,h2,_⟩:=dd
  exact ⟨ob,h1,h2.2.1⟩
 ·obtain ⟨_,hd,xs,_,dd⟩:=zHU I.hok e
  refine ⟨dd.typeIs,λb q=>?_,hd⟩
  cases q
  obtain ⟨ob,_,_,h1,h2,_⟩:=dd
  exact ⟨ob,h1,h2.2.1⟩
section
variable {X:Cx} {pins:PNt} {σ:St} {H:Hp} {s:Shared} {a:Addr} {y d:V} {u r:Value} {o:Option V} {A:Around} {E:VSt}
theorem zTX {Q:VSt} (hu:A.units+1<cLine) (I:Inv X pins σ H s) (g:zDJ H a y o) (ry:yn y u) (rd:yn d r) (h:∀ w' s',Inv X pins σ H s'->yn (o.getD d) w'->Q w' s') :
  wpAny (model X.prog X.w) A (call (.builtin "dict.get") [.ref a,u,r]) Q E s:=by
 rcases g with ⟨kvs,k,e,ey,l⟩|⟨kvs,k,b,e,ey,eb,l⟩
 ·subst ey
  obtain ⟨z,hd,vs,rel,dd⟩:=zHT I.hok e
  refine zXF zXD dd.typeIs PySem.F.entry_dict_get (PySem.F.args_dict_get_3 _ _ _) (meets_dict_get_default (z6 X.prog X.w) a (zGS ry) hd r) ⟨_,dd.mapOf,h _ _ (I.tok _) ?_⟩
  rw [l]
  exact (rel.val k).getD rd
 ·subst ey
  cases (show u=Value.ref b from ry)
  obtain ⟨z,hd,xs,rel,dd⟩:=zHU I.hok e
  refine zXF zXD dd.typeIs PySem.F.entry_dict_get (PySem.F.args_dict_get_3 _ _ _) (meetsH_dict_get_default (tupleKind (z6 X.prog X.w)) a b hd r) ⟨zWG hu,k,xs,zCt I.hok eb,dd,h _ _ (I.tok _) ?_⟩
  rw [l]
  exact (rel.val k).getD rd
end
def zTY (td ty tx:TE):TE:=λσ H Q=>td σ H λx H1=>∃ a,x = .ref a/\IsD H1 a/\ty σ H1 λy H2=>tx σ H2 λz H3=>∃ o,zDJ H3 a y o/\Q (o.getD z) H3
section
variable {X:Cx} {o e f:Expr} {apos cpos:Pos} {td ty tx:TE}
theorem zOA (hu:X.A.units+1<cLine) (ho:PE X o td) (he:PE X e ty) (hf:PE X f tx) (m:M2 X o "get" apos e f cpos):PE X (.Call (.Attribute o "get" apos) [e,f] [] cpos) (zTY td ty tx):=by
 intro pins s σ H Q I h
 refine wpAny_Call_method m.base m.few m.line zWy zXD PySem.F.type_dict_get (thn (ho pins s σ H _ I h) λu s1 zz=>?_)
 obtain ⟨x,H1,I1,rx,a,ex,d,q1⟩:=zz
 subst ex
 obtain rfl:u=Value.ref a:=rx
 obtain ⟨t1,t2,_⟩:=zTW I1 d
 refine ⟨t1,t2,?_⟩
 rw [m.trees]
 refine zW0 rfl (Calls.evalArgs_plain (Calls.spliced_cons (thn (he pins s1 σ H1 _ I1 q1) λiv s2 ⟨y,H2,I2,ry,q2⟩=>
  Calls.spliced_cons (thn (hf pins s2 σ H2 _ I2 q2) λfv s3 ⟨z,H3,I3,rz,ov,g,q3⟩=>Calls.spliced_nil ?_))))
 exact zTX hu I3 g ry rz λw' s4 I4 rw'=>⟨_,H3,I4,rw',q3⟩
end
section
variable {X:Cx} {pins:PNt} {σ:St} {H:Hp} {s:Shared} {a:Addr} {kvs:List (Key×V)} {A:Around} {E:VSt}
end
section
variable {X:Cx} {pins:PNt} {σ:St} {H:Hp} {s:Shared} {a:Addr} {y:V} {u:Value} {A:Around} {E:VSt}
end
end L2
namespace Att
open PySem PySem.W PySem.Calls PyProof.Rows
theorem zEa {P:Params} {h:Heap}:∀ (ns:List Int) (vs:List Value),WellAll P h vs (ns.map WData.int)->IntsAre vs ns:=by
 intro ns
 induction ns with
 |nil=>
  intro vs w
  rw [zV7] at w
  cases w
  exact .nil
 |cons n ns ih=>
  intro vs w
  rw [zUx] at w
  cases w with
  |cons a b=>
   cases a
   exact .cons _ _ (ih _ b)
theorem zLq {l:OpenLaw} {n:Nat} (hn:l.most=some n) {P:Params} {h:Heap} {args:List WData} {vals:List Value}
  (hpre:l.row.toRowW.claim.pre args=true) (hwl:WellAll P h vals args) :
  ∃ a vs ns,vals = [Value.ref a]/\args = [WData.list (ns.map WData.int)]/\h.get? a=some { cls:=.type "list",data:=.seq vs.toArray }/\IntsAre vs ns/\ns.length<=n:=by
 have hsh:WShape.hasAll [] args [.list .int]=true:=(pre_splitW hpre).1
 have hc:l.pre.holds [] { args:=args }=true:=(pre_splitW hpre).2
 obtain ⟨d,r,rfl,h1,h2⟩:=hasAllW_cons hsh
 obtain rfl:=hasAllW_nil h2
 obtain ⟨xs,rfl,h3⟩:=hasW_list h1
 obtain ⟨ns,rfl⟩:=items_int h3
 have hlen:ns.length<=n:=by
  unfold OpenLaw.pre at hc
  have h4:(WTm.not (.lt (.lit (.int (n:Int))) (.len (.arg 0)))).holds [] { args:=[.list (ns.map .int)] }=true:=by
   have h4:=(holds_andW hc).1
   rw [hn] at h4
   exact h4
  have h5:=condW_of h4 (w_not (w_lt w_lit (w_len_list (w_arg rfl))))
  rw [zU4] at h5
  refine Nat.le_of_not_lt λq=>?_
  have q':(n:Int)<((ns.length:Nat):Int):=by omega
  first
   |(rw [zVz q'] at h5;exact absurd h5 (by decide))
   |(simp at h5;omega)
 cases hwl with
 |cons w1 w2=>
  cases w2
  cases w1 with
  |list ho hall=>exact ⟨_,_,ns,rfl,rfl,ho,zEa ns _ hall,hlen⟩
theorem zLr (l:OpenLaw) (args:List WData):l.row.toRowW.claim.post args (.bool true) args=true:=
 postW_of (r:=l.row.toRowW) (X:=(true == true))
  (show WShape.has [] (.bool true) .bool=true by first|rfl|decide|simp [WShape.has,WShape.arms,WShape.armsAll])
  (show (WTm.eq .res (.lit (.bool true))).value [] { args:=args,res:=some (.bool true),after:=args }=some (.bool (true == true)) from w_eq_bool (w_res rfl) w_lit) rfl
theorem attach_call {l:OpenLaw} {n:Nat} {q:Program} {loose:List Str} {XP:(Str->Option Value)->Heap->Prop} {YP:World->Heap->Prop} {d:DefRec}
  (hn:l.most=some n) (hdf:d.params.defaults = [])
  (call:∀ (w:World) (s₀ s₁:Shared) (mg mb:MGt) (fa:Addr) (o:Obj) (pm cd doc:Value) (a:Addr) (vs:List Value) (ns:List Int),
   Ground q loose [] XP w s₀ mg mb s₁.heap->YP w s₁.heap ->
   s₁.heap.get? fa=some o->o.data = .func (docDef d.name d.params d.body d.scope pm cd doc)->s₁.heap.CodeRec cd d.name->mg d.name=some (.ref fa) ->
   s₁.heap.get? a=some { cls:=.type "list",data:=.seq vs.toArray }->IntsAre vs ns->ns.length<=n->s₁.gens = #[] ->
   codeAny (model l.prog w) callerA (.call (.ref fa) ⟨[.ref a],[]⟩) (λr s'=>r = .ok (.ret (.bool true))/\OldK s₁.heap s'.heap/\s'.os=s₁.os/\AllBare s'.gens) s₁) :
  WalkO q loose XP YP l.row.toRowW d [] (λf vs=>PySem.call f vs):=by
 intro w s₀ s₁ mg mb G Y fa o pm cd doc dV kV ho hd hcd hD hmg hg args vals as hpre hlay hrd hwl hlo
 obtain rfl:dV = .none:=Dflts.none hD hdf
 obtain rfl:kV = .none:=Dflts.noKw hD
 obtain ⟨a,vs,ns,rfl,rfl,hobj,hints,hlen⟩:=zLq hn hpre hwl
 refine enter_call (codeAny_mono (call w s₀ s₁ mg mb fa o pm cd doc a vs ns G Y ho (fd_plain hd) hcd hmg hobj hints hlen hg) λr s' hq=>?_)
 obtain ⟨rfl,h2,h3,h4⟩:=hq
 exact ⟨.inl ⟨.bool true,.bool true,[],rfl,λ_=>rfl,.bool true,zLr l _,λ_=>⟨List.Pairwise.nil,λ_ hm=>(nomatch hm)⟩⟩,h2,h3,h4⟩
section
variable {prog:Program} {w:World} {A:Around} {E:VSt} {s:Shared} {K:Frag}
end
end Att
namespace L2
open PySem PySem.Spec PyProof.Rows
theorem zHV:∀ {vs:List Value} {ns:List Int},IntsAre vs ns->yN (ns.map V.int) vs
 |_,_,.nil=>.nil
 |_,_,.cons n t h=>.cons ⟨t,rfl⟩ (zHV h)
def Only (H:Hp):Prop:=∀ b,H b=none\/∃ o xs,H b=some (.frz o (.lst xs))
theorem zOB {P:Program} {w:World} {K:Fg} {mg mb:MGt} {CX:CXT} {k:Nat} {fa a:Addr} {fd:FuncData} {x:Str} {sp:Sp} {s₁:Shared} {vs:List Value} {ns:List Int}
  (KX:K.In s₁.heap) (hns:s₁.heap.Ns mainGlobals mg) (hb:s₁.heap.Ns builtinsNs mb) (hbb:∀ x:Str,x ≠ "__name__"->mb x=bootBuiltins x) (hlim:s₁.heap.NoLimit) (hg:s₁.gens = #[])
  (ha:s₁.heap.get? a=some { cls:=.type "list",data:=.seq vs.toArray }) (hi:IntsAre vs ns) (hl:ns.length<=sizeLine) (hr:zAB k callerA)
  (F:∀ base:Heap,K.In base->base.Ns mainGlobals mg->zCe P w K mg base CX k fa fd [x] sp) (hbind:∀ (s:Shared) (u:Value),BindsTo s fd ⟨[u],[]⟩ [(x,u)])
  (hsp:∀ H:Hp,Only H->SqL K H a (ns.map V.int)->sp [.ref a] H (λv _=>v = .bl true) λ_ _ _=>False)
  (hCX:∀ H e s',CX [] H s₁ (λ_ _ _=>False) e s'->False) :
  codeAny (model P w) callerA (.call (.ref fa) ⟨[.ref a],[]⟩) (λr s'=>r = .ok (.ret (.bool true))/\OldK s₁.heap s'.heap/\s'.os=s₁.os/\AllBare s'.gens) s₁:=by
 have rv:=zHV hi
 have lenV:=hi.length
 -- from an abstract heap in which nothing but the script may be tracked
 have core:∀ H:Hp,Only H->SqL K H a (ns.map V.int)->HOk P w H s₁.heap->(∀ b,H b≠none->b=a)->(H a≠none->K.lookup a=none) ->
   codeAny (model P w) callerA (.call (.ref fa) ⟨[.ref a],[]⟩) (λr s'=>r = .ok (.ret (.bool true))/\OldK s₁.heap s'.heap/\s'.os=s₁.os/\AllBare s'.gens) s₁:=by
  intro H hO hS hok hA hK
  have base_of:∀ {b:Addr} {o:Obj},s₁.heap.get? b=some o->H b=none->(zNw s₁.heap H).get? b=some o:=λe n=>zNx e n
  have noA:∀ {b:Addr} {o:Obj} {es:Array DictEntry} {ep:Nat},s₁.heap.get? b=some o->o.data = .dict es ep->H b=none:=λ{b o es ep} e d=>by
   cases q:H b with
   |none=>rfl
   |some u=>
    have e':b=a:=hA b (by rw [q];simp)
    subst e'
    rw [ha] at e;cases e
    have d':Data.seq vs.toArray _=Data.dict es ep:=d
    cases d'
  have nsK:∀ {b:Addr} {m:MGt},s₁.heap.Ns b m->(zNw s₁.heap H).Ns b m:=λ{b m} ⟨o,es,ep,e,d,r⟩=>⟨o,es,ep,base_of e (noA e d),d,r⟩
  have hKb:K.In (zNw s₁.heap H):=λb o e=>base_of (KX b o e) (by
   cases q:H b with
   |none=>rfl
   |some u=>
    have e':b=a:=hA b (by rw [q];simp)
    subst e'
    rw [hK (by rw [q];simp)] at e;cases e)
  have hM:Mod K mg (zNw s₁.heap H):=⟨hKb,nsK hns,⟨mb,nsK hb,hbb⟩,let ⟨mc,h1,h2⟩:=hlim;⟨mc,nsK h1,h2⟩⟩
  have e0:zQz P w K mg (zNw s₁.heap H) callerA [] s₁ H:=⟨rfl,hM,λb o e=>zQg e,Nat.le_of_eq (zLQ _ _),trivial,λb hb=>absurd (show b∈([]:List Addr) from hb) (by simp),hok,.of_eq hg⟩
  refine codeAny_mono ((F _ hKb (nsK hns)).run callerA [] s₁ H ⟨[.ref a],[]⟩ [.ref a] [.ref a] _ _ hr e0 (hbind s₁ (.ref a)) (.cons rfl .nil) (hsp H hO hS)) λr s' h=>?_
  cases r with
  |error e=>exact (hCX H e s' h).elim
  |ok fl=>
   cases fl with
   |next=>exact False.elim h
   |brk=>exact False.elim h
   |cont=>exact False.elim h
   |ret u=>
    obtain ⟨v,H',os,bare,un,hok',r',q⟩:=h
    have q':v = .bl true:=q
    subst q'
    obtain rfl:u=Value.bool true:=r'
    refine ⟨rfl,OldK.of_keep λb o e=>?_,os,bare⟩
    cases q:H b with
    |none=>exact un.keep b o e q (by intro z;exact absurd (show b∈([]:List Addr) from z) (by simp)) (by simp)
    |some u=>
     rcases hO b with z|⟨ob,xs,z⟩
     ·rw [q] at z;cases z
     ·have z2:=un.frzs b ob _ z
      obtain ⟨e1,_⟩:=hok b _ z
      obtain ⟨e2,_⟩:=hok' b _ z2
      rw [e] at e1;cases e1
      exact e2
 cases hk:K.lookup a with
 |some o=>
  -- the script is one of the module's own objects
  have e:=KX a o hk
  rw [ha] at e
  cases e
  refine core (λ_=>none) (λ_=>.inl rfl) (.inr ⟨_,vs.toArray,_,hk,rfl,rfl,rfl,by rw [zU3,lenV];exact hl,by simpa using rv⟩) (λb u z=>by have z':(none:Option HO)=some u:=z;cases z') (λb z=>absurd rfl z) λz=>absurd rfl z
 |none=>
  refine core (λb=>if b=a then some (.frz { cls:=.type "list",data:=.seq vs.toArray } (.lst (ns.map V.int))) else none) (λb=>?_) (.inl (.inr ⟨{ cls:=.type "list",data:=.seq vs.toArray },zVE rfl⟩)) (λb u z=>?_) (λb z=>?_) λ_=>hk
  ·by_cases hb:b=a
   ·exact .inr ⟨_,_,zVE hb⟩
   ·exact .inl (zVe hb)
  ·by_cases hb:b=a
   ·have z':=(zVE hb).symm.trans z
    cases z'
    subst hb
    exact ⟨ha,by rw [zU4];exact hl,vs,_,rv,ha⟩
   ·have z':=(zVe hb).symm.trans z
    cases z'
  ·by_cases hb:b=a
   ·exact hb
   ·exact absurd (zVe hb) z
end L2
namespace L2
open PySem PySem.Spec PyProof.Rows
theorem zLs {l:PySem.W.OpenLaw} {n k:Nat} {q:Program} {loose:List Str} {XP:(Str->Option Value)->Heap->Prop} {YP:World->Heap->Prop} {d:DefRec} {K:Params->Fg} {CX:World->CXT} {sp:World->Sp} {x:Str}
  (hn:l.most=some n) (hn2:n<=sizeLine) (hdf:d.params.defaults = []) (hr:zAB k callerA)
  (hY:∀ (w:World) (h:Heap),YP w h->(K w.params).In h)
  (F:∀ (w:World) (mg:MGt) (fa:Addr) (h:Heap),(K w.params).In h->h.Ns mainGlobals mg->mg d.name=some (.ref fa) ->
   ∃ fd:FuncData,(∀ (s:Shared) (u:Value),BindsTo s fd ⟨[u],[]⟩ [(x,u)]) /\
    ∀ base:Heap,(K w.params).In base->base.Ns mainGlobals mg->zCe l.prog w (K w.params) mg base (CX w) k fa fd [x] (sp w))
  (hsp:∀ (w:World) (H:Hp) (a:Addr) (ns:List Int),ns.length<=n->Only H->SqL (K w.params) H a (ns.map V.int)->sp w [.ref a] H (λv _=>v = .bl true) λ_ _ _=>False)
  (hCX:∀ (w:World) (H:Hp) (s:Shared) (e:Value) (s':Shared),CX w [] H s (λ_ _ _=>False) e s'->False) :
  PySem.W.WalkO q loose XP YP l.row.toRowW d [] (λf vs=>PySem.call f vs):=by
 refine Att.attach_call hn hdf λw s₀ s₁ mg mb fa o pm cd doc a vs ns G Y ho hd hcd hmg hobj hints hlen hg=>?_
 have KX:=hY w _ Y
 obtain ⟨fd,hb,hF⟩:=F w mg fa _ KX G.T.g hmg
 exact zOB KX G.T.g G.T.b G.T.builtins G.T.nolimit hg hobj hints (zVb hlen hn2) hr hF hb (λH hO hS=>hsp w H a ns hlen hO hS) λH e s'=>hCX w H s₁ e s'
end L2
namespace L2
open PySem PySem.Spec PyProof.Rows
abbrev CX0:CXT:=λ_ _ _ _ _ _=>False
abbrev E0:XK:=λ_ _ _=>False
theorem zIb {X:Cx}:zBb CX0 X E0:=λ_ _ _ _ _ _ _ h=>h.elim
structure Fun (K:Fg) (x qual:Str) (st:Stmt) (f:Addr) (fd:FuncData):Prop where
 ex:∃ (oc:Value) (od:Option Addr) (kV doc pm:Value) (an:Option Addr) (cdv ct:Value) (osl:Array (Option Value)),
  fd=PySem.W.fnOf x qual (zCZ st) (z8 st) (zI st) .none kV doc pm an cdv ct/\K.lookup f=some ⟨oc,od,.func fd,osl⟩/\PySem.W.codeIn K cdv qual=true
 kp:PySem.W.keepIn K (.ref f)=true
section
variable {P:Program} {w:World} {K:Fg} {mg:MGt} {base:Heap}
theorem Fun.ok {x qual:Str} {st:Stmt} {f:Addr} {fd:FuncData} {N ps:List Str} {k:Nat} {sp:Sp} (F:Fun K x qual st f fd) (S:zV N ps (zI st)) (len:∀ vs H Q E,sp vs H Q E->vs.length=ps.length)
  (hbody:∀ (cdv:Value) (A:Around) (outer:List Env) (s:Shared) (H:Hp) (vs:List V) (Q:VK) (E:XK),zAB k (A.deeper (envOfC qual (zI st) s.heap.objs.size f cdv))->sp vs H Q E ->
   ∃ t,PSs (zFS CX0 P w K mg base N qual (zI st) f cdv A outer s H E).nox (z8 st) t/\t { nx:=λ_ H'=>Q .non H',rt:=Q } (zBH N vs) H):zCe P w K mg base CX0 (k+1) f fd ps sp:=by
 obtain ⟨oc,od,kV,doc,pm,an,cdv,ct,osl,rfl,lk,hcd⟩:=F.ex
 refine zN4 lk hcd S len λA outer s H vs Q E hr hsp=>?_
 obtain ⟨t,h,q⟩:=hbody cdv A outer s H vs Q E hr hsp
 exact ⟨t,h.nox,q⟩
theorem Fun.binds {x qual:Str} {st:Stmt} {f:Addr} {fd:FuncData} {ps:List Str} (F:Fun K x qual st f fd)
  (h:∀ (kV doc pm:Value) (an:Option Addr) (cdv ct:Value) (us:List Value),us.length=ps.length->bindArgs (PySem.W.fnOf x qual (zCZ st) (z8 st) (zI st) .none kV doc pm an cdv ct) ⟨us,[]⟩=pure (ps.zip us)):zAx K fd ps []:=by
 obtain ⟨oc,od,kV,doc,pm,an,cdv,ct,osl,rfl,lk,hcd⟩:=F.ex
 exact .all (h kV doc pm an cdv ct)
theorem zP0 {x qual:Str} {st:Stmt} {f:Addr} {oc:Value} {od an:Option Addr} {osl:Array (Option Value)} {kV doc pm cdv ct:Value} (l:K.lookup f=some ⟨oc,od,.func (PySem.W.fnOf x qual (zCZ st) (z8 st) (zI st) .none kV doc pm an cdv ct),osl⟩)
  (c:PySem.W.codeIn K cdv qual=true) (k:PySem.W.keepIn K (.ref f)=true):Fun K x qual st f (PySem.W.fnOf x qual (zCZ st) (z8 st) (zI st) .none kV doc pm an cdv ct):=⟨⟨oc,od,kV,doc,pm,an,cdv,ct,osl,rfl,l,c⟩,k⟩
end
theorem zGU {A:Around} {k:Nat} (hr:zAB k A):A.units+1<cLine:=Nat.lt_of_le_of_lt (Nat.add_le_add_left (by decide:1<=64) _) hr.units
theorem zLt {n:Nat} (h:n<=1000):n<sizeLine:=Nat.lt_of_le_of_lt h (by decide)
section
variable {X:Cx}
theorem pv (i:Nat) {x:Str} {pos:Pos} (hN:X.N[i]?=some x:=by rfl) (hv:Vis X.env.scope x:=by first|exact Or.inl rfl|exact Or.inr (Or.inl rfl)|exact Or.inr (Or.inr rfl)) (hd:(x == ("__debug__" : Str))=false:=by decide)
  (hcd:(x == ("__classdict__" : Str))=false:=by decide):PE X (.Name x pos) (zBG i):=zSx hN hv hd hcd
end
def zf (H H':Hp):Prop:=∀ b o,H b=some o->H' b=some o
theorem zf.refl (H:Hp):zf H H:=λ_ _ h=>h
theorem zf.trans {H H1 H2:Hp} (a:zf H H1) (b:zf H1 H2):zf H H2:=λc o h=>b c o (a c o h)
theorem zf.free {H H':Hp} (e:zf H H') {l:Addr} (h:H' l=Option.none):H l=Option.none:=by
 cases q:H l with
 |none=>rfl
 |some o=>
  rw [e l o q] at h
  cases h
theorem zf.seq {K:Fg} {H H':Hp} {a:Addr} {xs:List V} (e:zf H H') (h:SqL K H a xs):SqL K H' a xs:=by
 rcases h with (h|⟨o,h⟩)|h
 ·exact .inl (.inl (e _ _ h))
 ·exact .inl (.inr ⟨o,e _ _ h⟩)
 ·exact .inr h
end L2
namespace L2
open PySem PySem.Spec PyProof.Rows
section
variable {κ:Type} [DecidableEq κ]
end
end L2
namespace RD
open PySem PySem.Spec PyProof.Rows L2
inductive D where
 |non|bl (b:Bool)|int (i:Int)|str (x:Str)|tup (xs:List D)|lst (xs:List D)
section
variable (K:Fg) (G:Hp)
mutual
def Rep:D->V->Prop
 |.non,v=>v = .non
 |.bl b,v=>v = .bl b
 |.int i,v=>v = .int i
 |.str x,v=>v = .str x
 |.tup ds,v=>∃ a vs,v = .ref a/\G a=some (.tup vs)/\Reps ds vs
 |.lst ds,v=>∃ a vs,v = .ref a/\SqL K G a vs/\Reps ds vs
def Reps:List D->List V->Prop
 | [],vs=>vs = []
 |d::ds,vs=>∃ v r,vs=v::r/\Rep d v/\Reps ds r
end
end
theorem qL {K:Fg} {H H':Hp} {a:Addr} {xs:List V} (e:zf H H') (h:SqT K H a xs):SqT K H' a xs:=by
 rcases h with (h|⟨o,h⟩)|h
 ·exact .inl (.inl (e _ _ h))
 ·exact .inl (.inr ⟨o,e _ _ h⟩)
 ·exact .inr h
mutual
theorem Rep.mono {K:Fg} {G G':Hp} (s:zf G G'):∀ (d:D) (v:V),Rep K G d v->Rep K G' d v
 |.non,_,h=>by simpa [Rep] using h
 |.bl _,_,h=>by simpa [Rep] using h
 |.int _,_,h=>by simpa [Rep] using h
 |.str _,_,h=>by simpa [Rep] using h
 |.tup ds,_,h=>by
  simp only [Rep] at h ⊢
  obtain ⟨a,vs,e,q,r⟩:=h
  exact ⟨a,vs,e,s _ _ q,Reps.mono s ds vs r⟩
 |.lst ds,_,h=>by
  simp only [Rep] at h ⊢
  obtain ⟨a,vs,e,q,r⟩:=h
  exact ⟨a,vs,e,s.seq q,Reps.mono s ds vs r⟩
theorem Reps.mono {K:Fg} {G G':Hp} (s:zf G G'):∀ (ds:List D) (vs:List V),Reps K G ds vs->Reps K G' ds vs
 | [],_,h=>by simpa [Reps] using h
 |d::ds,_,h=>by
  simp only [Reps] at h ⊢
  obtain ⟨v,r,e,a,b⟩:=h
  exact ⟨v,r,e,Rep.mono s d v a,Reps.mono s ds r b⟩
end
section
variable {K:Fg} {G:Hp}
theorem qp {v:V}:Rep K G .non v↔v = .non:=by simp [Rep]
theorem yO {b:Bool} {v:V}:Rep K G (.bl b) v↔v = .bl b:=by simp [Rep]
theorem yE {i:Int} {v:V}:Rep K G (.int i) v↔v = .int i:=by simp [Rep]
theorem zAK {x:Str} {v:V}:Rep K G (.str x) v↔v = .str x:=by simp [Rep]
theorem zBI {ds:List D} {v:V}:Rep K G (.tup ds) v↔∃ a vs,v = .ref a/\G a=some (.tup vs)/\Reps K G ds vs:=by simp only [Rep]
theorem zCf {ds:List D} {v:V} (h:Rep K G (.tup ds) v):∃ a vs,v = .ref a/\SqT K G a vs/\Reps K G ds vs:=let ⟨a,vs,e,q,r⟩:=zBI.mp h;⟨a,vs,e,SqT.of q,r⟩
theorem zAL {ds:List D} {v:V}:Rep K G (.lst ds) v↔∃ a vs,v = .ref a/\SqL K G a vs/\Reps K G ds vs:=by simp only [Rep]
theorem yP {vs:List V}:Reps K G [] vs↔vs = []:=by simp only [Reps]
theorem za {d:D} {ds:List D} {vs:List V}:Reps K G (d::ds) vs↔∃ v r,vs=v::r/\Rep K G d v/\Reps K G ds r:=by simp only [Reps]
theorem Reps.nil:Reps K G [] []:=yP.mpr rfl
theorem Reps.cons {d:D} {ds:List D} {v:V} {vs:List V} (h:Rep K G d v) (t:Reps K G ds vs):Reps K G (d::ds) (v::vs):=za.mpr ⟨v,vs,rfl,h,t⟩
theorem Reps.inv {d:D} {ds:List D} {v:V} {vs:List V} (h:Reps K G (d::ds) (v::vs)):Rep K G d v/\Reps K G ds vs:=by
 obtain ⟨v',r,e,a,b⟩:=za.mp h
 cases e
 exact ⟨a,b⟩
theorem Reps.length:∀ {ds:List D} {vs:List V},Reps K G ds vs->ds.length=vs.length
 | [],vs,h=>by rw [yP.mp h];rfl
 |d::ds,vs,h=>by
  obtain ⟨v,r,rfl,_,t⟩:=za.mp h
  rw [zUv,zUv,Reps.length t]
theorem Reps.get:∀ {ds:List D} {vs:List V} {i:Nat} {d:D},Reps K G ds vs->ds[i]?=some d->∃ v,vs[i]?=some v/\Rep K G d v
 | [],_,_,_,_,e=>by simp at e
 |d::ds,vs,0,d',h,e=>by
  obtain ⟨v,r,rfl,a,_⟩:=za.mp h
  simp at e;subst e
  exact ⟨v,rfl,a⟩
 |d::ds,vs,i+1,d',h,e=>by
  obtain ⟨v,r,rfl,_,t⟩:=za.mp h
  obtain ⟨v',e1,e2⟩:=Reps.get (i:=i) t (by simpa using e)
  exact ⟨v',by simpa using e1,e2⟩
theorem Reps.got {ds:List D} {vs:List V} {i:Nat} {v:V} (h:Reps K G ds vs) (e:vs[i]?=some v):∃ d,ds[i]?=some d/\Rep K G d v:=by
 have hl:i<ds.length:=by rw [h.length];exact (zU7.mp e).1
 obtain ⟨v',e1,r⟩:=h.get (i:=i) (d:=ds[i]) (by simp [hl])
 rw [e] at e1;cases e1
 exact ⟨ds[i],by simp [hl],r⟩
theorem Reps.append:∀ {ds es:List D} {vs us:List V},Reps K G ds vs->Reps K G es us->Reps K G (ds++es) (vs++us)
 | [],_,vs,_,h,t=>by rw [yP.mp h];exact t
 |d::ds,es,vs,us,h,t=>by
  obtain ⟨v,r,rfl,a,b⟩:=za.mp h
  exact Reps.cons a (Reps.append b t)
theorem Reps.take:∀ {ds:List D} {vs:List V} (n:Nat),Reps K G ds vs->Reps K G (ds.take n) (vs.take n)
 |_,_,0,_=>by simpa using Reps.nil
 | [],vs,n+1,h=>by rw [yP.mp h];simpa using Reps.nil
 |d::ds,vs,n+1,h=>by
  obtain ⟨v,r,rfl,a,b⟩:=za.mp h
  exact Reps.cons a (Reps.take n b)
theorem Reps.drop:∀ {ds:List D} {vs:List V} (n:Nat),Reps K G ds vs->Reps K G (ds.drop n) (vs.drop n)
 |_,_,0,h=>by simpa using h
 | [],vs,n+1,h=>by rw [yP.mp h];simpa using Reps.nil
 |d::ds,vs,n+1,h=>by
  obtain ⟨v,r,rfl,a,b⟩:=za.mp h
  exact Reps.drop n b
theorem Reps.set:∀ {ds:List D} {vs:List V} (i:Nat) {d:D} {v:V},Reps K G ds vs->Rep K G d v->Reps K G (ds.set i d) (vs.set i v)
 | [],vs,_,_,_,h,_=>by rw [yP.mp h];simpa using Reps.nil
 |d::ds,vs,0,d',v',h,q=>by
  obtain ⟨v,r,rfl,a,b⟩:=za.mp h
  exact Reps.cons q b
 |d::ds,vs,i+1,d',v',h,q=>by
  obtain ⟨v,r,rfl,a,b⟩:=za.mp h
  exact Reps.cons a (Reps.set i b q)
theorem Reps.dropLast:∀ {ds:List D} {vs:List V},Reps K G ds vs->Reps K G ds.dropLast vs.dropLast:=λ{ds vs} h=>by
 rw [List.dropLast_eq_take,List.dropLast_eq_take,h.length]
 exact h.take _
theorem Reps.ints:∀ (ns:List Int),Reps K G (ns.map D.int) (ns.map V.int)
 | []=>Reps.nil
 |n::ns=>Reps.cons (yE.mpr rfl) (Reps.ints ns)
end
structure zd (G H G' H':Hp):Prop where
 g:zf G G'
 h:zf H H'
 s:zf G' H'
 f:∀ b o,G' b=some o->G b=none->H b=none
theorem zd.refl {G H:Hp} (s:zf G H):zd G H G H:=⟨zf.refl _,zf.refl _,s,λb o e n=>by rw [n] at e;cases e⟩
theorem zd.trans {G H G1 H1 G2 H2:Hp} (a:zd G H G1 H1) (b:zd G1 H1 G2 H2):zd G H G2 H2:=
 ⟨a.g.trans b.g,a.h.trans b.h,b.s,λc o e n=>by
  cases q:G1 c with
  |some o'=>exact a.f c o' q n
  |none=>exact a.h.free (b.f c o e q)⟩
theorem yh {H:Hp} {p:Addr} {o:HO} (n:H p=none):zf H (upd H p o):=λb u e=>by rw [zJ (yl e n)];exact e
theorem zd.new {G H:Hp} (s:zf G H) {p:Addr} {o:HO} (n:H p=none):zd G H (upd G p o) (upd H p o):=
 ⟨yh (s.free n),yh n,λb u e=>by
  by_cases hb:b=p
  ·subst hb;rw [zN] at e ⊢;exact e
  ·rw [zJ hb] at e ⊢;exact s b u e,λb u e k=>by
  by_cases hb:b=p
  ·subst hb;exact n
  ·rw [zJ hb] at e;rw [e] at k;cases k⟩
theorem zd.newH {G H:Hp} (s:zf G H) {p:Addr} {o:HO} (n:H p=none):zd G H G (upd H p o):=
 ⟨zf.refl _,yh n,s.trans (yh n),λb u e k=>by rw [e] at k;cases k⟩
inductive Fd where
 |l (xs:List D)|m (kvs:List (Key×D))|t (kvs:List (List Key×D))|ml (kvs:List (Key×List D))|tl (kvs:List (List Key×List D))
inductive Fl where
 |v (d:D)|f (x:Fd)
inductive Ob where
 |p (f:Fd)|ins (C:Addr) (fs:List (Str×Fl))
def zAu (K:Fg) (G:Hp) (kvs:List (Key×D)) (ws:List (Key×V)):Prop:=kvs.map (·.1)=ws.map (·.1)/\Reps K G (kvs.map (·.2)) (ws.map (·.2))
theorem zAu.mono {K:Fg} {G G':Hp} (s:zf G G') {kvs:List (Key×D)} {ws:List (Key×V)} (h:zAu K G kvs ws):zAu K G' kvs ws:=⟨h.1,Reps.mono s _ _ h.2⟩
def zRE:V->Option Addr
 |.ref a=>some a
 |_=>none
theorem zOC {v:V} {a:Addr} (h:zRE v=some a):v = .ref a:=by
 cases v<;>first|(cases h;done)|(simp only [zRE,zWk] at h;rw [h])
def zDK {κ:Type} (ws:List (κ×V)):List Addr:=ws.filterMap λq=>zRE q.2
theorem qB {κ:Type} {ws:List (κ×V)} {a:Addr}:a∈zDK ws↔.ref a∈ws.map (·.2):=by
 unfold zDK
 rw [zVR,zVT]
 constructor
 ·rintro ⟨q,h,e⟩;exact ⟨q,h,zOC e⟩
 ·rintro ⟨q,h,e⟩;exact ⟨q,h,by rw [e];rfl⟩
def inK:Option HO->List Addr
 |some (.dK ws)=>zDK ws
 |some (.dT ws)=>zDK ws
 |_=>[]
def fpF (H:Hp):Fd->Addr->List Addr
 |.l _,a=>[a]
 |.m _,a=>[a]
 |.t _,a=>[a]
 |.ml _,a=>a::inK (H a)
 |.tl _,a=>a::inK (H a)
def fpL (H:Hp):Fl->V->List Addr
 |.f x,.ref a=>fpF H x a
 |_,_=>[]
def fpW (H:Hp) (fs:List (Str×Fl)) (ws:List (Str×V)):List Addr:=fs.flatMap λq=>match ws.lookup q.1 with
 |some u=>fpL H q.2 u
 |none=>[]
def inI (H:Hp) (fs:List (Str×Fl)):Option HO->List Addr
 |some (.ins _ dx ws)=>dx::fpW H fs ws
 |_=>[]
def fpO (H:Hp):Ob->Addr->List Addr
 |.p f,a=>fpF H f a
 |.ins _ fs,a=>a::inI H fs (H a)
section
variable (K:Fg) (G H:Hp)
def yF:List (List D)->List V->Prop
 | [],vs=>vs = []
 |xs::r,vs=>∃ b us t,vs = .ref b::t/\H b=some (.lst us)/\Reps K G xs us/\yF r t
def zGV:Fd->Addr->Prop
 |.l xs,a=>∃ vs,H a=some (.lst vs)/\Reps K G xs vs
 |.m kvs,a=>∃ ws,H a=some (.dK ws)/\zAu K G kvs ws
 |.t kvs,a=>∃ ws,H a=some (.dT ws)/\kvs.map (·.1)=ws.map (·.1)/\Reps K G (kvs.map (·.2)) (ws.map (·.2))
 |.ml kvs,a=>∃ ws,H a=some (.dK ws)/\kvs.map (·.1)=ws.map (·.1)/\yF K G H (kvs.map (·.2)) (ws.map (·.2))
 |.tl kvs,a=>∃ ws,H a=some (.dT ws)/\kvs.map (·.1)=ws.map (·.1)/\yF K G H (kvs.map (·.2)) (ws.map (·.2))
def zLG:Fl->V->Prop
 |.v d,u=>Rep K G d u
 |.f x,u=>∃ a,u = .ref a/\zGV K G H x a
def zLu:Ob->Addr->Prop
 |.p f,a=>zGV K G H f a
 |.ins C fs,a=>∃ dx ws,H a=some (.ins C dx ws)/\H dx=some (.own a)/\(∀ q∈fs,∃ u,ws.lookup q.1=some u/\zLG K G H q.2 u)/\(∀ x,fs.lookup x=none->ws.lookup x=none)/\ws.length<=fs.length
end
section
variable {K:Fg} {G G' H H':Hp}
theorem yF.there:∀ {xs:List (List D)} {vs:List V},yF K G H xs vs->∀ b,.ref b∈vs->∃ o,H b=some o
 | [],_,h,b,m=>by simp only [yF] at h;subst h;cases m
 |x::xs,_,h,b,m=>by
  simp only [yF] at h
  obtain ⟨c,us,t,rfl,e,r,l⟩:=h
  rcases zU1.mp m with z|m
  ·cases z;exact ⟨_,e⟩
  ·exact yF.there l b m
theorem yF.same (g:zf G G'):∀ {xs:List (List D)} {vs:List V},yF K G H xs vs->(∀ b,.ref b∈vs->∀ o,H b=some o->H' b=some o)->yF K G' H' xs vs
 | [],_,h,_=>by simpa only [yF] using h
 |x::xs,_,h,m=>by
  simp only [yF] at h ⊢
  obtain ⟨c,us,t,rfl,e,r,l⟩:=h
  exact ⟨c,us,t,rfl,m c (zU0 ..) _ e,Reps.mono g _ _ r,yF.same g l λb z=>m b (zUu _ z)⟩
theorem zGV.head {f:Fd} {a:Addr}:a∈fpF H f a:=by cases f<;>simp [fpF]
theorem zGV.there {f:Fd} {a:Addr} (h:zGV K G H f a):∀ c∈fpF H f a,∃ o,H c=some o:=by
 intro c m
 cases f with
 |l xs=>obtain ⟨vs,e,_⟩:=h;simp only [fpF,zUy] at m;subst m;exact ⟨_,e⟩
 |m xs=>obtain ⟨vs,e,_⟩:=h;simp only [fpF,zUy] at m;subst m;exact ⟨_,e⟩
 |t xs=>obtain ⟨vs,e,_⟩:=h;simp only [fpF,zUy] at m;subst m;exact ⟨_,e⟩
 |ml xs=>
  obtain ⟨ws,e,_,l⟩:=h
  rcases zU1.mp m with z|m
  ·subst z;exact ⟨_,e⟩
  ·rw [e] at m;exact l.there c (qB.mp m)
 |tl xs=>
  obtain ⟨ws,e,_,l⟩:=h
  rcases zU1.mp m with z|m
  ·subst z;exact ⟨_,e⟩
  ·rw [e] at m;exact l.there c (qB.mp m)
theorem zGV.same {f:Fd} {a:Addr} (g:zf G G') (h:zGV K G H f a) (k:∀ c∈fpF H f a,∀ o,H c=some o->H' c=some o):zGV K G' H' f a/\fpF H' f a=fpF H f a:=by
 cases f with
 |l xs=>obtain ⟨vs,e,r⟩:=h;exact ⟨⟨vs,k a zGV.head _ e,Reps.mono g _ _ r⟩,rfl⟩
 |m xs=>obtain ⟨vs,e,r⟩:=h;exact ⟨⟨vs,k a zGV.head _ e,r.mono g⟩,rfl⟩
 |t xs=>obtain ⟨vs,e,q,r⟩:=h;exact ⟨⟨vs,k a zGV.head _ e,q,Reps.mono g _ _ r⟩,rfl⟩
 |ml xs=>
  obtain ⟨ws,e,q,l⟩:=h
  have e':=k a zGV.head _ e
  refine ⟨⟨ws,e',q,l.same g λb m o z=>k b ?_ o z⟩,by simp only [fpF];rw [e,e']⟩
  simp only [fpF];rw [e];exact zUu _ (qB.mpr m)
 |tl xs=>
  obtain ⟨ws,e,q,l⟩:=h
  have e':=k a zGV.head _ e
  refine ⟨⟨ws,e',q,l.same g λb m o z=>k b ?_ o z⟩,by simp only [fpF];rw [e,e']⟩
  simp only [fpF];rw [e];exact zUu _ (qB.mpr m)
theorem zLG.there {f:Fl} {u:V} (h:zLG K G H f u):∀ c∈fpL H f u,∃ o,H c=some o:=by
 intro c m
 cases f with
 |v d=>cases u<;>cases m
 |f x=>obtain ⟨a,rfl,r⟩:=h;exact r.there c m
theorem zLG.same {f:Fl} {u:V} (g:zf G G') (h:zLG K G H f u) (k:∀ c∈fpL H f u,∀ o,H c=some o->H' c=some o):zLG K G' H' f u/\fpL H' f u=fpL H f u:=by
 cases f with
 |v d=>exact ⟨Rep.mono g _ _ h,by cases u<;>rfl⟩
 |f x=>obtain ⟨a,rfl,r⟩:=h;exact ⟨⟨a,rfl,(r.same g k).1⟩,(r.same g k).2⟩
theorem zDW {fs:List (Str×Fl)} {ws:List (Str×V)} {q:Str×Fl} {u:V} {c:Addr} (hq:q∈fs) (hu:ws.lookup q.1=some u) (hc:c∈fpL H q.2 u):c∈fpW H fs ws:=
 zV5.mpr ⟨q,hq,by rw [hu];exact hc⟩
theorem zGW {fs:List (Str×Fl)} {ws:List (Str×V)}:∀ (k:∀ q∈fs,∃ u,ws.lookup q.1=some u/\fpL H' q.2 u=fpL H q.2 u),fpW H' fs ws=fpW H fs ws:=by
 induction fs with
 |nil=>intro _;rfl
 |cons q fs ih=>
  intro k
  obtain ⟨u,e,z⟩:=k q (zU0 ..)
  have:=ih λp m=>k p (zUu _ m)
  unfold fpW at this ⊢
  rw [zVX,zVX,this,e]
  simp only [z]
theorem zLu.head {o:Ob} {a:Addr}:a∈fpO H o a:=by
 cases o with
 |p f=>exact zGV.head
 |ins C fs=>exact zU0 ..
theorem zLu.there {o:Ob} {a:Addr} (h:zLu K G H o a):∀ c∈fpO H o a,∃ u,H c=some u:=by
 cases o with
 |p f=>exact zGV.there h
 |ins C fs=>
  obtain ⟨dx,ws,e1,e2,e3,_⟩:=h
  intro c m
  rcases zU1.mp m with z|m
  ·subst z;exact ⟨_,e1⟩
  ·rw [e1] at m
   rcases zU1.mp m with z|m
   ·subst z;exact ⟨_,e2⟩
   ·obtain ⟨q,hq,m⟩:=zV5.mp m
    obtain ⟨u,e,r⟩:=e3 q hq
    rw [e] at m
    exact r.there c m
theorem zLu.same {o:Ob} {a:Addr} (g:zf G G') (h:zLu K G H o a) (k:∀ c∈fpO H o a,∀ u,H c=some u->H' c=some u):zLu K G' H' o a/\fpO H' o a=fpO H o a:=by
 cases o with
 |p f=>exact zGV.same g h k
 |ins C fs=>
  obtain ⟨dx,ws,e1,e2,e3,e4⟩:=h
  have e1':=k a zLu.head _ e1
  have sub:∀ c∈dx::fpW H fs ws,∀ u,H c=some u->H' c=some u:=λc m=>k c (by simp only [fpO];rw [e1];exact zUu _ m)
  have fl:∀ q∈fs,∃ u,ws.lookup q.1=some u/\zLG K G' H' q.2 u/\fpL H' q.2 u=fpL H q.2 u:=λq hq=>by
   obtain ⟨u,e,r⟩:=e3 q hq
   exact ⟨u,e,r.same g λc m=>sub c (zUu _ (zDW hq e m))⟩
  refine ⟨⟨dx,ws,e1',sub dx (zU0 ..) _ e2,λq hq=>?_,e4⟩,?_⟩
  ·obtain ⟨u,e,r,_⟩:=fl q hq;exact ⟨u,e,r⟩
  ·simp only [fpO]
   rw [e1,e1']
   simp only [inI]
   rw [zGW λq hq=>let ⟨u,e,_,z⟩:=fl q hq;⟨u,e,z⟩]
end
inductive Sl where
 |un|v (d:D)|l (xs:List D)|m (kvs:List (Key×D))
  |o (c:Option Addr) (x:Ob)|b (c:Addr) (x:Ob)
def Sl.isOwn:Sl->Bool
 |.l _=>true
 |.m _=>true
 |.o _ _=>true
 |_=>false
def Sl.isPl:Sl->Bool
 |.l _=>true
 |.m _=>true
 |_=>false
def Sl.isObj:Sl->Bool
 |.l _=>true
 |.m _=>true
 |.o _ _=>true
 |.b _ _=>true
 |_=>false
theorem Sl.own_of_pl {s:Sl} (h:s.isPl=true):s.isOwn=true:=by cases s<;>first|rfl|cases h
theorem Sl.obj_of_own {s:Sl} (h:s.isOwn=true):s.isObj=true:=by cases s<;>first|rfl|cases h
abbrev Rho:=List Sl
abbrev ROl:=Rho->Option (List D)
abbrev ROd:=Rho->Option D
abbrev ROb:=Rho->Option Bool
def fpS (H:Hp):Sl->Addr->List Addr
 |.l _,a=>[a]
 |.m _,a=>[a]
 |.o _ x,a=>fpO H x a
 |.b _ x,a=>fpO H x a
 |_,_=>[]
def zJg (K:Fg) (G H:Hp):Sl->Addr->Prop
 |.l xs,a=>∃ vs,H a=some (.lst vs)/\Reps K G xs vs
 |.m kvs,a=>∃ ws,H a=some (.dK ws)/\zAu K G kvs ws
 |.o c x,a=>(zLu K G H x a/\(fpO H x a).Nodup)/\∀ c',c=some c'->a=c'
 |.b c x,a=>(zLu K G H x a/\(fpO H x a).Nodup)/\a=c
 |_,_=>False
section
variable {K:Fg} {G G' H H':Hp} {s:Sl} {a:Addr}
theorem zHW (h:s.isPl=true):fpS H s a = [a]:=by cases s<;>first|rfl|cases h
theorem zBJ (h:s.isObj=true):a∈fpS H s a:=by
 cases s<;>first|(cases h;done)|exact zUy.mpr rfl|exact zLu.head
theorem zJg.there (h:zJg K G H s a):∀ c∈fpS H s a,∃ u,H c=some u:=by
 cases s with
 |un=>cases h
 |v d=>cases h
 |l xs=>obtain ⟨vs,e,_⟩:=h;intro c m;cases zUy.mp m;exact ⟨_,e⟩
 |m xs=>obtain ⟨vs,e,_⟩:=h;intro c m;cases zUy.mp m;exact ⟨_,e⟩
 |o c x=>exact h.1.1.there
 |b c x=>exact h.1.1.there
theorem zJg.same (g:zf G G') (h:zJg K G H s a) (k:∀ c∈fpS H s a,∀ u,H c=some u->H' c=some u):zJg K G' H' s a/\fpS H' s a=fpS H s a:=by
 cases s with
 |un=>cases h
 |v d=>cases h
 |l xs=>obtain ⟨vs,e,r⟩:=h;exact ⟨⟨vs,k a (zUy.mpr rfl) _ e,Reps.mono g _ _ r⟩,rfl⟩
 |m xs=>obtain ⟨vs,e,r⟩:=h;exact ⟨⟨vs,k a (zUy.mpr rfl) _ e,r.mono g⟩,rfl⟩
 |o c x=>have q:=h.1.1.same g k;exact ⟨⟨⟨q.1,by rw [q.2];exact h.1.2⟩,h.2⟩,q.2⟩
 |b c x=>have q:=h.1.1.same g k;exact ⟨⟨⟨q.1,by rw [q.2];exact h.1.2⟩,h.2⟩,q.2⟩
end
structure Er (K:Fg) (G H:Hp) (ρ:Rho) (σ:L2.St):Prop where
 len:ρ.length=σ.length
 val:∀ (i:Nat) (d:D),ρ[i]?=some (.v d)->∃ v,σ[i]?=some (some v)/\Rep K G d v
 slot:∀ (i:Nat) (s:Sl),ρ[i]?=some s->s.isObj=true->∃ a,σ[i]?=some (some (.ref a))/\zJg K G H s a/\∀ c∈fpS H s a,G c=none
 sep:∀ (i j:Nat) (s t:Sl) (a b:Addr),i≠j->ρ[i]?=some s->s.isOwn=true->ρ[j]?=some t->t.isObj=true->σ[i]?=some (some (.ref a))->σ[j]?=some (some (.ref b))->∀ c∈fpS H s a,c∉fpS H t b
section
variable {K:Fg} {G H G' H':Hp} {ρ:Rho} {σ:L2.St}
theorem Er.own (e:Er K G H ρ σ) (i:Nat) (xs:List D) (h:ρ[i]?=some (.l xs)):∃ a vs,σ[i]?=some (some (.ref a))/\G a=none/\H a=some (.lst vs)/\Reps K G xs vs:=by
 obtain ⟨a,h1,⟨vs,h2,h3⟩,h4⟩:=e.slot i _ h rfl
 exact ⟨a,vs,h1,h4 a (zBJ rfl),h2,h3⟩
theorem Er.dic (e:Er K G H ρ σ) (i:Nat) (kvs:List (Key×D)) (h:ρ[i]?=some (.m kvs)):∃ a ws,σ[i]?=some (some (.ref a))/\G a=none/\H a=some (.dK ws)/\zAu K G kvs ws:=by
 obtain ⟨a,h1,⟨vs,h2,h3⟩,h4⟩:=e.slot i _ h rfl
 exact ⟨a,vs,h1,h4 a (zBJ rfl),h2,h3⟩
theorem Er.ownAt (e:Er K G H ρ σ) {i:Nat} {s:Sl} (h:ρ[i]?=some s) (o:s.isOwn=true):∃ a u,σ[i]?=some (some (.ref a))/\G a=none/\H a=some u:=by
 obtain ⟨a,h1,h2,h3⟩:=e.slot i s h (Sl.obj_of_own o)
 obtain ⟨u,q⟩:=h2.there a (zBJ (Sl.obj_of_own o))
 exact ⟨a,u,h1,h3 a (zBJ (Sl.obj_of_own o)),q⟩
theorem Er.hop (e:Er K G H ρ σ) (g:zf G G') (k:∀ (i:Nat) (s:Sl) (a:Addr),ρ[i]?=some s->s.isObj=true->σ[i]?=some (some (.ref a))->∀ c∈fpS H s a,(∀ u,H c=some u->H' c=some u)/\G' c=none):Er K G' H' ρ σ:=by
 have all:∀ (i:Nat) (s:Sl) (a:Addr),ρ[i]?=some s->s.isObj=true->σ[i]?=some (some (.ref a))->zJg K G' H' s a/\fpS H' s a=fpS H s a:=λi s a h o q=>by
  obtain ⟨a',h1,h2,_⟩:=e.slot i s h o
  rw [q] at h1;cases h1
  exact h2.same g λc m=>(k i s a h o q c m).1
 refine ⟨e.len,λi d h=>let ⟨v,a,b⟩:=e.val i d h;⟨v,a,Rep.mono g d v b⟩,λi s h o=>?_,λi j s t a b ne h1 o1 h2 o2 q1 q2=>?_⟩
 ·obtain ⟨a,h1,h2,h3⟩:=e.slot i s h o
  exact ⟨a,h1,(all i s a h o h1).1,by rw [(all i s a h o h1).2];exact λc m=>(k i s a h o h1 c m).2⟩
 ·rw [(all i s a h1 (Sl.obj_of_own o1) q1).2,(all j t b h2 o2 q2).2]
  exact e.sep i j s t a b ne h1 o1 h2 o2 q1 q2
theorem Er.there (e:Er K G H ρ σ) {i:Nat} {s:Sl} {a:Addr} (h:ρ[i]?=some s) (o:s.isObj=true) (q:σ[i]?=some (some (.ref a))) {c:Addr} (m:c∈fpS H s a):(∃ u,H c=some u)/\G c=none:=by
 obtain ⟨a',h1,h2,h3⟩:=e.slot i s h o
 rw [q] at h1;cases h1
 exact ⟨h2.there c m,h3 c m⟩
theorem Er.step (e:Er K G H ρ σ) (t:zd G H G' H'):Er K G' H' ρ σ:=e.hop t.g λi s a h o q c m=>by
 obtain ⟨⟨u,h1⟩,h2⟩:=e.there h o q m
 refine ⟨λu z=>t.h _ _ z,?_⟩
 cases z:G' c with
 |none=>rfl
 |some o=>have:=t.f c o z h2;rw [h1] at this;cases this
end
structure Bs (G0 H0 G H:Hp):Prop where
 gh:zf G H
 gg:zf G0 G
 hh:zf H0 H
 fr:∀ b o,G b=some o->G0 b=none->H0 b=none
theorem Bs.step {G0 H0 G H G' H':Hp} (b:Bs G0 H0 G H) (t:zd G H G' H'):Bs G0 H0 G' H':=
 ⟨t.s,b.gg.trans t.g,b.hh.trans t.h,λc o e n=>by
  cases q:G c with
  |some o'=>exact b.fr c o' q n
  |none=>exact b.hh.free (t.f c o e q)⟩
structure StR (K:Fg) (G0 H0 G H:Hp) (ρ:Rho) (σ:L2.St):Prop where
 er:Er K G H ρ σ
 bs:Bs G0 H0 G H
 ows:∀ (i:Nat) (s:Sl) (a:Addr),ρ[i]?=some s->s.isOwn=true->σ[i]?=some (some (.ref a))->∀ c∈fpS H s a,H0 c=none
section
variable {K:Fg} {G0 H0 G H G' H':Hp} {ρ:Rho} {σ:L2.St}
theorem StR.ow (s:StR K G0 H0 G H ρ σ) (i:Nat) (u:Sl) (a:Addr) (h:ρ[i]?=some u) (o:u.isOwn=true) (q:σ[i]?=some (some (.ref a))):H0 a=none:=s.ows i u a h o q a (zBJ (Sl.obj_of_own o))
theorem Er.fp (e:Er K G H ρ σ) (t:zf H H') {i:Nat} {u:Sl} {a:Addr} (h:ρ[i]?=some u) (o:u.isObj=true) (q:σ[i]?=some (some (.ref a))):fpS H' u a=fpS H u a:=by
 obtain ⟨a',h1,h2,_⟩:=e.slot i u h o
 rw [q] at h1;cases h1
 exact (h2.same (zf.refl _) λc _ v z=>t _ _ z).2
theorem StR.step (s:StR K G0 H0 G H ρ σ) (t:zd G H G' H'):StR K G0 H0 G' H' ρ σ:=
 ⟨s.er.step t,s.bs.step t,λi u a h o q=>by rw [s.er.fp t.h h (Sl.obj_of_own o) q];exact s.ows i u a h o q⟩
end
theorem zu {α:Type} {l:List α} {i j:Nat} {x y:α} (h:(l.set i x)[j]?=some y):(j=i/\y=x/\i<l.length)\/(j≠i/\l[j]?=some y):=by
 by_cases e:j=i
 ·subst e
  have hl:j<l.length:=by
   have:=(zU7.mp h).1
   simpa using this
  rw [zVQ hl] at h
  cases h
  exact .inl ⟨rfl,rfl,hl⟩
 ·rw [zVH (Ne.symm e)] at h
  exact .inr ⟨e,h⟩
section
variable {K:Fg} {G0 H0 G H G' H':Hp} {ρ:Rho} {σ:L2.St} {i:Nat}
theorem StR.setV {d:D} {v:V} (s:StR K G0 H0 G H ρ σ) (r:Rep K G d v):StR K G0 H0 G H (ρ.set i (.v d)) (σ.set i (some v)) where
 bs:=s.bs
 er:={
  len:=by simpa using s.er.len
  val:=λj d' h=>by
   rcases zu h with ⟨rfl,e,hl⟩|⟨hj,h⟩
   ·cases e
    exact ⟨v,zVQ (by rw [<- s.er.len];exact hl),r⟩
   ·rw [zVH (Ne.symm hj)];exact s.er.val j d' h
  slot:=λj u h o=>by
   rcases zu h with ⟨rfl,e,hl⟩|⟨hj,h⟩
   ·subst e;cases o
   ·rw [zVH (Ne.symm hj)];exact s.er.slot j u h o
  sep:=λj k u t a b ne h1 o1 h2 o2 q1 q2=>by
   rcases zu h1 with ⟨rfl,e,_⟩|⟨hj,h1⟩
   ·subst e;cases o1
   rcases zu h2 with ⟨rfl,e,_⟩|⟨hk,h2⟩
   ·subst e;cases o2
   rw [zVH (Ne.symm hj)] at q1
   rw [zVH (Ne.symm hk)] at q2
   exact s.er.sep j k u t a b ne h1 o1 h2 o2 q1 q2 }
 ows:=λj u a h o q=>by
  rcases zu h with ⟨rfl,e,_⟩|⟨hj,h⟩
  ·subst e;cases o
  ·rw [zVH (Ne.symm hj)] at q;exact s.ows j u a h o q
theorem StR.setNew {a:Addr} {w:Sl} (s:StR K G0 H0 G H ρ σ) (t:zd G H G' H') (hw:w.isOwn=true) (hr:zJg K G' H' w a) (hn:∀ c∈fpS H' w a,H c=none/\G' c=none) :
  StR K G0 H0 G' H' (ρ.set i w) (σ.set i (some (.ref a))):=by
 have s':=s.step t
 have old:∀ {j:Nat} {u:Sl} {b c:Addr},ρ[j]?=some u->u.isObj=true->σ[j]?=some (some (.ref b))->c∈fpS H' u b->c∉fpS H' w a:=λ{j u b c} h o q m z=>by
  rw [s.er.fp t.h h o q] at m
  obtain ⟨⟨x,e⟩,_⟩:=s.er.there h o q m
  rw [(hn c z).1] at e;cases e
 refine ⟨⟨by simpa using s.er.len,λj d' h=>?_,λj u h o=>?_,λj k u v b b' ne h1 o1 h2 o2 q1 q2=>?_⟩,s'.bs,λj u b h o q=>?_⟩
 ·rcases zu h with ⟨rfl,e,_⟩|⟨hj,h⟩
  ·subst e;cases hw
  ·rw [zVH (Ne.symm hj)];exact s'.er.val j d' h
 ·rcases zu h with ⟨rfl,e,hi⟩|⟨hj,h⟩
  ·subst e
   exact ⟨a,zVQ (by rw [<- s.er.len];exact hi),hr,λc m=>(hn c m).2⟩
  ·rw [zVH (Ne.symm hj)];exact s'.er.slot j u h o
 ·rcases zu h1 with ⟨ej,e,hi⟩|⟨hj,h1'⟩
  ·rw [ej,zVQ (by rw [<- s.er.len];exact hi)] at q1
   cases q1
   subst e
   rcases zu h2 with ⟨ek,_,_⟩|⟨hk,h2'⟩
   ·exact absurd (ej.trans ek.symm) ne
   ·rw [zVH (Ne.symm hk)] at q2
    exact λc m z=>old h2' o2 q2 z m
  ·rw [zVH (Ne.symm hj)] at q1
   rcases zu h2 with ⟨ek,e,hi⟩|⟨hk,h2'⟩
   ·rw [ek,zVQ (by rw [<- s.er.len];exact hi)] at q2
    cases q2
    subst e
    exact λc m z=>old h1' (Sl.obj_of_own o1) q1 m z
   ·rw [zVH (Ne.symm hk)] at q2
    exact s'.er.sep j k u v b b' ne h1' o1 h2' o2 q1 q2
 ·rcases zu h with ⟨rfl,e,hi⟩|⟨hj,h⟩
  ·rw [zVQ (by rw [<- s.er.len];exact hi)] at q
   cases q
   subst e
   exact λc m=>s.bs.hh.free (hn c m).1
  ·rw [zVH (Ne.symm hj)] at q;exact s'.ows j u b h o q
theorem StR.setOwn {a:Addr} {w:Sl} (s:StR K G0 H0 G H ρ σ) (t:zd G H G' H') (hw:w.isPl=true) (hn:H a=none) (hg:G' a=none)
  (hl:∀ xs,w = .l xs->∃ vs,H' a=some (.lst vs)/\Reps K G' xs vs) (hm:∀ kvs,w = .m kvs->∃ ws,H' a=some (.dK ws)/\zAu K G' kvs ws) :
  StR K G0 H0 G' H' (ρ.set i w) (σ.set i (some (.ref a))):=by
 refine s.setNew t (Sl.own_of_pl hw) ?_ λc m=>?_
 ·cases w with
  |l xs=>exact hl xs rfl
  |m xs=>exact hm xs rfl
  |_=>cases hw
 ·rw [zHW hw] at m
  cases zUy.mp m
  exact ⟨hn,hg⟩
theorem StR.mutG {a:Addr} {u w:Sl} (s:StR K G0 H0 G H ρ σ) (hu:ρ[i]?=some u) (ou:u.isOwn=true) (hw:w.isOwn=true) (ha:σ[i]?=some (some (.ref a)))
  (hG:zf G G') (hGH:zf G' H') (hf:∀ b o,G' b=some o->G b=none->H b=none\/b∈fpS H u a) (hH:∀ b o,H b=some o->b∉fpS H u a->H' b=some o)
  (hr:zJg K G' H' w a) (hn:∀ c∈fpS H' w a,(c∈fpS H u a\/H c=none)/\G' c=none):StR K G0 H0 G' H' (ρ.set i w) σ:=by
 have hi:i<ρ.length:=(zU7.mp hu).1
 have off:∀ {j:Nat} {u':Sl} {b c:Addr},j≠i->ρ[j]?=some u'->u'.isObj=true->σ[j]?=some (some (.ref b))->c∈fpS H u' b->c∉fpS H u a:=λ{j u' b c} ne h o q m z=>
  s.er.sep i j u u' a b (Ne.symm ne) hu ou h o ha q c z m
 have all:∀ {j:Nat} {u':Sl} {b:Addr},j≠i->ρ[j]?=some u'->u'.isObj=true->σ[j]?=some (some (.ref b))->(zJg K G' H' u' b/\fpS H' u' b=fpS H u' b)/\∀ c∈fpS H u' b,G' c=none:=λ{j u' b} ne h o q=>by
  obtain ⟨b',h1,h2,h3⟩:=s.er.slot j u' h o
  rw [q] at h1;cases h1
  refine ⟨h2.same hG λc m v z=>hH c v z (off ne h o q m),λc m=>?_⟩
  cases z:G' c with
  |none=>rfl
  |some x=>
   rcases hf c x z (h3 c m) with y|y
   ·obtain ⟨v,e⟩:=h2.there c m;rw [y] at e;cases e
   ·exact absurd y (off ne h o q m)
 have h0:∀ c∈fpS H u a,H0 c=none:=s.ows i u a hu ou ha
 refine ⟨⟨by simpa using s.er.len,λj d' h=>?_,λj v h o=>?_,λj k v v' b b' ne h1 o1 h2 o2 q1 q2=>?_⟩,⟨hGH,s.bs.gg.trans hG,λb x e=>?_,λb x e n=>?_⟩,λj v b h o q=>?_⟩
 ·rcases zu h with ⟨rfl,e,_⟩|⟨hj,h⟩
  ·subst e;cases hw
  ·obtain ⟨v,e1,e2⟩:=s.er.val j d' h;exact ⟨v,e1,Rep.mono hG _ _ e2⟩
 ·rcases zu h with ⟨rfl,e,_⟩|⟨hj,h⟩
  ·subst e;exact ⟨a,ha,hr,λc m=>(hn c m).2⟩
  ·obtain ⟨b,h1,_,_⟩:=s.er.slot j v h o
   have q:=all hj h o h1
   exact ⟨b,h1,q.1.1,by rw [q.1.2];exact q.2⟩
 ·have new:∀ {k:Nat} {v':Sl} {b' c:Addr},k≠i->ρ[k]?=some v'->v'.isObj=true->σ[k]?=some (some (.ref b'))->c∈fpS H' w a->c∉fpS H' v' b':=λ{k v' b' c} nk h o q m z=>by
   rw [(all nk h o q).1.2] at z
   rcases (hn c m).1 with y|y
   ·exact off nk h o q z y
   ·obtain ⟨⟨x,e⟩,_⟩:=s.er.there h o q z;rw [y] at e;cases e
  rcases zu h1 with ⟨ej,e,_⟩|⟨hj,h1'⟩
  ·subst ej;subst e
   rw [ha] at q1;cases q1
   rcases zu h2 with ⟨ek,_,_⟩|⟨hk,h2'⟩
   ·exact absurd ek.symm ne
   ·exact λc m=>new hk h2' o2 q2 m
  ·rcases zu h2 with ⟨ek,e,_⟩|⟨hk,h2'⟩
   ·subst ek;subst e
    rw [ha] at q2;cases q2
    exact λc m z=>new hj h1' (Sl.obj_of_own o1) q1 z m
   ·rw [(all hj h1' (Sl.obj_of_own o1) q1).1.2,(all hk h2' o2 q2).1.2]
    exact s.er.sep j k v v' b b' ne h1' o1 h2' o2 q1 q2
 ·exact hH b x (s.bs.hh b x e) λz=>by rw [h0 b z] at e;cases e
 ·cases q:G b with
  |some o'=>exact s.bs.fr b o' q n
  |none=>
   rcases hf b x e q with y|y
   ·exact s.bs.hh.free y
   ·exact h0 b y
 ·rcases zu h with ⟨rfl,e,_⟩|⟨hj,h⟩
  ·subst e
   rw [ha] at q;cases q
   intro c m
   rcases (hn c m).1 with y|y
   ·exact h0 c y
   ·exact s.bs.hh.free y
  ·rw [(all hj h (Sl.obj_of_own o) q).1.2];exact s.ows j v b h o q
theorem StR.mut {a:Addr} {u w:Sl} {o:HO} (s:StR K G0 H0 G H ρ σ) (hu:ρ[i]?=some u) (ou:u.isPl=true) (hw:w.isPl=true) (ha:σ[i]?=some (some (.ref a)))
  (hl:∀ xs,w = .l xs->∃ vs,o = .lst vs/\Reps K G xs vs) (hm:∀ kvs,w = .m kvs->∃ ws,o = .dK ws/\zAu K G kvs ws) :
  StR K G0 H0 G (upd H a o) (ρ.set i w) σ:=by
 obtain ⟨a',u',e1,e2,e3⟩:=s.er.ownAt hu (Sl.own_of_pl ou)
 rw [ha] at e1;cases e1
 refine s.mutG hu (Sl.own_of_pl ou) (Sl.own_of_pl hw) ha (zf.refl _) (λb x e=>?_) (λb x e n=>by rw [n] at e;cases e) (λb x e n=>?_) ?_ λc m=>?_
 ·rw [zJ (λz=>by rw [z,e2] at e;cases e)];exact s.bs.gh b x e
 ·rw [zHW ou] at n
  rw [zJ (λz=>n (zUy.mpr z))];exact e
 ·cases w with
  |l xs=>obtain ⟨vs,h1,h2⟩:=hl xs rfl;exact ⟨vs,by rw [zN,h1],h2⟩
  |m xs=>obtain ⟨vs,h1,h2⟩:=hm xs rfl;exact ⟨vs,by rw [zN,h1],h2⟩
  |_=>cases hw
 ·rw [zHW hw] at m
  cases zUy.mp m
  exact ⟨.inl (by rw [zHW ou];exact zUy.mpr rfl),e2⟩
end
def frz (i:Nat) (ρ:Rho):Rho:=match ρ[i]? with
 |some (.l xs)=>ρ.set i (.v (.lst xs))
 |_=>ρ
section
variable {K:Fg} {G0 H0 G H G':Hp} {ρ:Rho} {σ:L2.St} {i:Nat}
theorem StR.frzG {a:Addr} {u:Sl} {d:D} (s:StR K G0 H0 G H ρ σ) (hu:ρ[i]?=some u) (ou:u.isOwn=true) (ha:σ[i]?=some (some (.ref a)))
  (hG:zf G G') (hGH:zf G' H) (hf:∀ b o,G' b=some o->G b=none->b∈fpS H u a) (hr:Rep K G' d (.ref a)):StR K G0 H0 G' H (ρ.set i (.v d)) σ:=by
 have off:∀ {j:Nat} {u':Sl} {b c:Addr},j≠i->ρ[j]?=some u'->u'.isObj=true->σ[j]?=some (some (.ref b))->c∈fpS H u' b->c∉fpS H u a:=λ{j u' b c} ne h o q m z=>
  s.er.sep i j u u' a b (Ne.symm ne) hu ou h o ha q c z m
 refine ⟨⟨by simpa using s.er.len,λj d' h=>?_,λj v h o=>?_,λj k v v' b b' ne h1 o1 h2 o2 q1 q2=>?_⟩,⟨hGH,s.bs.gg.trans hG,s.bs.hh,λb x e n=>?_⟩,λj v b h o q=>?_⟩
 ·rcases zu h with ⟨rfl,e,_⟩|⟨hj,h⟩
  ·cases e;exact ⟨_,ha,hr⟩
  ·obtain ⟨v,e1,e2⟩:=s.er.val j d' h;exact ⟨v,e1,Rep.mono hG _ _ e2⟩
 ·rcases zu h with ⟨rfl,e,_⟩|⟨hj,h⟩
  ·subst e;cases o
  ·obtain ⟨b,h1,h2,h3⟩:=s.er.slot j v h o
   refine ⟨b,h1,(h2.same hG λc m x z=>z).1,λc m=>?_⟩
   cases z:G' c with
   |none=>rfl
   |some x=>exact absurd (hf c x z (h3 c m)) (off hj h o h1 m)
 ·rcases zu h1 with ⟨rfl,e,_⟩|⟨hj,h1⟩
  ·subst e;cases o1
  rcases zu h2 with ⟨rfl,e,_⟩|⟨hk,h2⟩
  ·subst e;cases o2
  exact s.er.sep j k v v' b b' ne h1 o1 h2 o2 q1 q2
 ·cases q:G b with
  |some o'=>exact s.bs.fr b o' q n
  |none=>exact s.ows i u a hu ou ha b (hf b x e q)
 ·rcases zu h with ⟨rfl,e,_⟩|⟨hj,h⟩
  ·subst e;cases o
  ·exact s.ows j v b h o q
theorem StR.frz (i:Nat) (s:StR K G0 H0 G H ρ σ):∃ G',zf G G'/\StR K G0 H0 G' H (RD.frz i ρ) σ:=by
 have up:∀ {a:Addr} {o:HO} {u:Sl},u.isPl=true->H a=some o->G a=none->zf (upd G a o) H/\∀ b x,upd G a o b=some x->G b=none->b∈fpS H u a:=λ{a o u} hp h n=>by
  refine ⟨λb x e=>?_,λb x e k=>?_⟩
  ·by_cases z:b=a
   ·subst z;rw [zN] at e;cases e;exact h
   ·rw [zJ z] at e;exact s.bs.gh b x e
  ·by_cases z:b=a
   ·subst z;rw [zHW hp];exact zUy.mpr rfl
   ·rw [zJ z,k] at e;cases e
 unfold RD.frz
 split
 ·rename_i xs h
  obtain ⟨a,vs,h1,h2,h3,h4⟩:=s.er.own i xs h
  have hG:zf G (upd G a (.lst vs)):=yh h2
  exact ⟨_,hG,s.frzG h rfl h1 hG (up (u:=.l xs) rfl h3 h2).1 (up (u:=.l xs) rfl h3 h2).2 (zAL.mpr ⟨a,vs,rfl,SqL.of zN,Reps.mono hG _ _ h4⟩)⟩
 ·exact ⟨G,zf.refl _,s⟩
end
inductive zCE (K:Fg) (G H:Hp):D->V->Prop where
 |fr {d:D} {v:V}:Rep K G d v->zCE K G H d v
 |ow {xs:List D} {a:Addr} {vs:List V}:G a=none->H a=some (.lst vs)->Reps K G xs vs->zCE K G H (.lst xs) (.ref a)
theorem zCE.step {K:Fg} {G H G' H':Hp} {d:D} {v:V} (r:zCE K G H d v) (t:zd G H G' H'):zCE K G' H' d v:=by
 cases r with
 |fr r=>exact .fr (Rep.mono t.g _ _ r)
 |ow h1 h2 h3=>
  refine .ow ?_ (t.h _ _ h2) (Reps.mono t.g _ _ h3)
  rename_i a _
  cases q:G' a with
  |none=>rfl
  |some o=>have:=t.f a o q h1;rw [h2] at this;cases this
section
variable {K:Fg} {G H:Hp}
theorem zCE.list {xs:List D} {v:V} (r:zCE K G H (.lst xs) v) (s:zf G H):∃ a vs,v = .ref a/\SqL K H a vs/\Reps K G xs vs:=by
 cases r with
 |fr r=>obtain ⟨a,vs,e,q,t⟩:=zAL.mp r;exact ⟨a,vs,e,s.seq q,t⟩
 |ow h1 h2 h3=>exact ⟨_,_,rfl,SqL.of h2,h3⟩
theorem zCE.rep {d:D} {v:V} (r:zCE K G H d v) (h:∀ xs,d≠.lst xs):Rep K G d v:=by
 cases r with
 |fr r=>exact r
 |ow _ _ _=>exact absurd rfl (h _)
theorem zCE.int {i:Int} {v:V} (r:zCE K G H (.int i) v):v = .int i:=yE.mp (r.rep λ_ z=>by cases z)
theorem zCE.bl {b:Bool} {v:V} (r:zCE K G H (.bl b) v):v = .bl b:=yO.mp (r.rep λ_ z=>by cases z)
theorem zCE.str {x:Str} {v:V} (r:zCE K G H (.str x) v):v = .str x:=zAK.mp (r.rep λ_ z=>by cases z)
theorem zCE.non {v:V} (r:zCE K G H .non v):v = .non:=qp.mp (r.rep λ_ z=>by cases z)
theorem zCE.tup {xs:List D} {v:V} (r:zCE K G H (.tup xs) v) (s:zf G H):∃ a vs,v = .ref a/\SqT K H a vs/\Reps K G xs vs:=by
 obtain ⟨a,vs,e,q,t⟩:=zCf (r.rep λ_ z=>by cases z)
 exact ⟨a,vs,e,qL s q,t⟩
end
def tE (K:Fg) (f:ROd):TE:=λσ H Q=>∃ G ρ d,zf G H/\Er K G H ρ σ/\f ρ=some d/\∀ v G' H',zd G H G' H'->Rep K G' d v->Q v H'
def tR (K:Fg) (f:ROd):TE:=λσ H Q=>∃ G ρ d,zf G H/\Er K G H ρ σ/\f ρ=some d/\∀ v G' H',zd G H G' H'->zCE K G' H' d v->Q v H'
def tF (K:Fg) (f:ROl):TE:=λσ H Q=>∃ G ρ xs,zf G H/\Er K G H ρ σ/\f ρ=some xs /\
 ∀ a vs G' H',zd G H G' H'->H a=none->G' a=none->H' a=some (.lst vs)->Reps K G' xs vs->Q (.ref a) H'
def tTs (K:Fg) (f:ROb):TT:=λσ H Q=>∃ G ρ b,zf G H/\Er K G H ρ σ/\f ρ=some b/\∀ G' H',zd G H G' H'->Q b H'
def tAs (K:Fg) (f:ROl):TA:=λσ H Q=>∃ G ρ ds,zf G H/\Er K G H ρ σ/\f ρ=some ds/\∀ vs G' H',zd G H G' H'->Reps K G' ds vs->Q vs H'
abbrev SE (X:Cx) (e:Expr) (f:ROd):Prop:=PE X e (tE X.K f)
abbrev SR (X:Cx) (e:Expr) (f:ROd):Prop:=PE X e (tR X.K f)
abbrev SF (X:Cx) (e:Expr) (f:ROl):Prop:=PE X e (tF X.K f)
abbrev SB (X:Cx) (e:Expr) (f:ROb):Prop:=PT X e (tTs X.K f)
structure SA (X:Cx) (es:List Expr) (f:ROl):Prop where
 pa:PA X es (tAs X.K f)
 len:∀ ρ ds,f ρ=some ds->ds.length=es.length
theorem zAy {X:Cx} {e:Expr} {t t':TE} (h:PE X e t) (w:∀ σ H Q,t' σ H Q->t σ H Q):PE X e t':=λpins s σ H Q I q=>h pins s σ H Q I (w σ H Q q)
theorem zHX {X:Cx} {e:Expr} {t t':TT} (h:PT X e t) (w:∀ σ H Q,t' σ H Q->t σ H Q):PT X e t':=λpins s σ H Q I q=>h pins s σ H Q I (w σ H Q q)
theorem zOD {X:Cx} {e:List Expr} {t t':TA} (h:PA X e t) (w:∀ σ H Q,t' σ H Q->t σ H Q):PA X e t':=λpos pins s σ H Q I q=>h pos pins s σ H Q I (w σ H Q q)
theorem yY {X:Cx} {e:Stmt} {t t':TS} (h:PS X e t) (w:∀ Q σ H,t' Q σ H->t Q σ H):PS X e t':=λpins s σ H Q I q=>h pins s σ H Q I (w Q σ H q)
theorem zHY {X:Cx} {e:List Stmt} {t t':TS} (h:PSs X e t) (w:∀ Q σ H,t' Q σ H->t Q σ H):PSs X e t':=λpins s σ H Q I q=>h pins s σ H Q I (w Q σ H q)
section
variable {X:Cx} {e a b:Expr} {es:List Expr} {f g:ROd} {fl:ROl} {pos:Pos}
theorem zE (h:SE X e f):SR X e f:=zAy h λσ H Q ⟨G,ρ,d,s,er,ef,k⟩=>⟨G,ρ,d,s,er,ef,λv G' H' t r=>k v G' H' t (.fr r)⟩
theorem zLv {G H G' H':Hp} {a:Addr} {vs:List V} (t:zd G H G' H') (h1:H a=none) (h2:G' a=none) (h3:H' a=some (.lst vs)):zd G H (upd G' a (.lst vs)) H':=
 ⟨t.g.trans (yh h2),t.h,λb u e=>by
  by_cases z:b=a
  ·subst z;rw [zN] at e;cases e;exact h3
  ·rw [zJ z] at e;exact t.s b u e,λb u e n=>by
  by_cases z:b=a
  ·subst z;exact h1
  ·rw [zJ z] at e;exact t.f b u e n⟩
theorem zg (h:SF X e fl):SE X e (λρ=>(fl ρ).map D.lst):=zAy h λσ H Q=>by
 rintro ⟨G,ρ,d,s,er,ef,k⟩
 obtain ⟨xs,e1,rfl⟩:=zUt.mp ef
 refine ⟨G,ρ,xs,s,er,e1,λa vs G' H' t h1 h2 h3 r=>?_⟩
 exact k (.ref a) (upd G' a (.lst vs)) H' (zLv t h1 h2 h3) (zAL.mpr ⟨a,vs,rfl,SqL.of zN,Reps.mono (yh h2) _ _ r⟩)
noncomputable def zOE (ρ:Rho) (i:Nat):Option D:=match ρ[i]? with
 |some (.v d)=>some d
 |_=>none
noncomputable def zLH (ρ:Rho) (i:Nat):Option D:=match ρ[i]? with
 |some (.v d)=>some d
 |some (.l xs)=>some (.lst xs)
 |_=>none
abbrev gV (i:Nat):Rho->Option D:=λρ=>zOE ρ i
abbrev gR (i:Nat):Rho->Option D:=λρ=>zLH ρ i
abbrev zR (n:Int):Rho->Option D:=λ_=>some (D.int n)
abbrev zO:Rho->Option (List D):=λ_=>some []
theorem zRF {ρ:Rho} {i:Nat} {d:D} (h:zOE ρ i=some d):ρ[i]?=some (.v d):=by
 unfold zOE at h
 split at h
 ·cases h;assumption
 ·cases h
theorem zLw {ρ:Rho} {i:Nat} {d:D} (h:zLH ρ i=some d):ρ[i]?=some (.v d)\/∃ xs,d = .lst xs/\ρ[i]?=some (.l xs):=by
 unfold zLH at h
 split at h
 ·cases h;left;assumption
 ·cases h;right;exact ⟨_,rfl,by assumption⟩
 ·cases h
theorem zD (i:Nat) (h:PE X e (zBG i)):SE X e (gV i):=zAy h λσ H Q=>by
 rintro ⟨G,ρ,d,s,er,ef,k⟩
 obtain ⟨v,e1,r⟩:=er.val i d (zRF ef)
 exact ⟨v,e1,k v G H (zd.refl s) r⟩
theorem zC (i:Nat) (h:PE X e (zBG i)):SR X e (gR i):=zAy h λσ H Q=>by
 rintro ⟨G,ρ,d,s,er,ef,k⟩
 rcases zLw ef with ef1|⟨xs,rfl,ef1⟩
 ·obtain ⟨v,e1,r⟩:=er.val i d ef1
  exact ⟨v,e1,k v G H (zd.refl s) (.fr r)⟩
 ·obtain ⟨a,vs,e1,e2,e3,e4⟩:=er.own i xs ef1
  exact ⟨_,e1,k _ G H (zd.refl s) (.ow e2 e3 e4)⟩
theorem zEB {v:V} {d:D} (h:PE X e (tC v)) (r:∀ K G,Rep K G d v):SE X e (λ_=>some d):=zAy h λσ H Q=>by
 rintro ⟨G,ρ,d',s,er,ef,k⟩
 cases ef
 exact k v G H (zd.refl s) (r _ _)
theorem zF {i j}:SE X (.Constant (.int i) j pos) (λ_=>some (.int i)):=zEB zPr λ_ _=>yE.mpr rfl
theorem zFT {i j}:SE X (.Constant (.bool i) j pos) (λ_=>some (.bl i)):=zEB pe_bl λ_ _=>yO.mpr rfl
theorem zLx {j}:SE X (.Constant .none j pos) (λ_=>some .non):=zEB zSy λ_ _=>qp.mpr rfl
theorem zv {i j}:SE X (.Constant (.str i) j pos) (λ_=>some (.str i)):=zEB zPs λ_ _=>zAK.mpr rfl
def rD (K:Fg) (op:D->D->Option D):R2:=λx y H Q=>∃ G dx dy d,zf G H/\zCE K G H dx x/\zCE K G H dy y/\op dx dy=some d/\∀ v G' H',zd G H G' H'->Rep K G' d v->Q v H'
noncomputable def b2 (f g:ROd) (op:D->D->Option D):ROd:=λρ=>(f ρ).bind λx=>(g ρ).bind λy=>op x y
theorem zOF {K:Fg} {op:D->D->Option D} {σ:L2.St} {H:Hp} {Q:VK} (h:tE K (b2 f g op) σ H Q):tOp (rD K op) (tR K f) (tR K g) σ H Q:=by
 obtain ⟨G,ρ,d,s,er,ef,k⟩:=h
 obtain ⟨x,e1,ef⟩:=zUs.mp ef
 obtain ⟨y,e2,ef⟩:=zUs.mp ef
 refine ⟨G,ρ,x,s,er,e1,λv1 G1 H1 t1 r1=>⟨G1,ρ,y,t1.s,er.step t1,e2,λv2 G2 H2 t2 r2=>?_⟩⟩
 exact ⟨G2,x,y,d,t2.s,r1.step t2,r2,ef,λv G' H' t r=>k v G' H' ((t1.trans t2).trans t) r⟩
theorem zb {op:Operator} {o2:D->D->Option D} (ho:OpR X (binaryOp op) (rD X.K o2)) (ha:SR X a f) (hb:SR X b g):SE X (.BinOp a op b pos) (b2 f g o2):=zAy (zTB ho ha hb) λ_ _ _ h=>zOF h
theorem zEb {op:CmpOp} {o2:D->D->Option D} (ho:OpR X (compareOp op) (rD X.K o2)) (ha:SR X a f) (hb:SR X b g) (hm:behindInMarks op b=false):SE X (.Compare a [op] [b] pos) (b2 f g o2):=zAy (zLY ho ha hb hm) λ_ _ _ h=>zOF h
def asB:D->Option Bool
 |.bl b=>some b
 |_=>none
noncomputable def bB (f:ROd):ROb:=λρ=>(f ρ).bind asB
theorem zFl {d:D} {b:Bool} (h:asB d=some b):d = .bl b:=by
 cases d<;>first|(cases h;rfl)|cases h
theorem yG {op:CmpOp} {o2:D->D->Option D} (ho:OpR X (compareOp op) (rD X.K o2)) (ha:SR X a f) (hb:SR X b g) (hm:behindInMarks op b=false):SB X (.Compare a [op] [b] pos) (bB (b2 f g o2)):=
 zHX (zGO ho ha hb hm) λσ H Q=>by
  rintro ⟨G,ρ,d,s,er,ef,k⟩
  obtain ⟨x,e1,e2⟩:=zUs.mp ef
  have e3:=zFl e2
  subst e3
  exact zOF ⟨G,ρ,_,s,er,e1,λv G' H' t r=>⟨d,yO.mp r,k G' H' t⟩⟩
def b3 (f g h:ROd) (o1 o2:D->D->Option D):ROd:=λρ=>(f ρ).bind λx=>(g ρ).bind λy=>(o1 x y).bind λz=>(asB z).bind λk=>if k=true then (h ρ).bind λw=>o2 y w else some (.bl false)
noncomputable def zRG (f g:ROb):ROb:=λρ=>(f ρ).bind λb=>if b=true then g ρ else some false
noncomputable def bOr (f g:ROb):ROb:=λρ=>(f ρ).bind λb=>if b=true then some true else g ρ
noncomputable def zRH (f:ROb):ROb:=λρ=>(f ρ).map (!·)
abbrev SW (X:Cx) (e:Expr) (f:ROb):Prop:=PW X e (tTs X.K f)
theorem zTZ {X:Cx} {e:Expr} {t t':TT} (h:PW X e t) (w:∀ σ H Q,t' σ H Q->t σ H Q):PW X e t':=λwh pins s σ H Q I q=>h wh pins s σ H Q I (w σ H Q q)
theorem zTa {f:ROb} (h:SW X e f):SB X e f:=h.pt
variable {p q:ROb} {rest:List Expr}
theorem zGX (ha:SB X a p):SW X (.BoolOp .And [a] pos) p:=zQj ha
theorem zTb (ha:SB X a p):SW X (.BoolOp .Or [a] pos) p:=zS0 ha
theorem zJh (ha:SB X a p) (hb:SW X (.BoolOp .And (b::rest) pos) q):SW X (.BoolOp .And (a::b::rest) pos) (zRG p q):=
 zTZ (zS1 ha hb) λσ H Q=>by
  rintro ⟨G,ρ,d,s,er,ef,k⟩
  obtain ⟨c,e1,ef⟩:=zUs.mp ef
  refine ⟨G,ρ,c,s,er,e1,λG1 H1 t1=>?_⟩
  cases c with
  |false=>rw [zVe zVV] at ef ⊢;cases ef;exact k G1 H1 t1
  |true=>rw [zVE rfl] at ef ⊢;exact ⟨G1,ρ,d,t1.s,er.step t1,ef,λG' H' t=>k G' H' (t1.trans t)⟩
theorem sw_or (ha:SB X a p) (hb:SW X (.BoolOp .Or (b::rest) pos) q):SW X (.BoolOp .Or (a::b::rest) pos) (bOr p q):=
 zTZ (pw_or ha hb) λσ H Q=>by
  rintro ⟨G,ρ,d,s,er,ef,k⟩
  obtain ⟨c,e1,ef⟩:=zUs.mp ef
  refine ⟨G,ρ,c,s,er,e1,λG1 H1 t1=>?_⟩
  cases c with
  |true=>rw [zVE rfl] at ef ⊢;cases ef;exact k G1 H1 t1
  |false=>rw [zVe zVV] at ef ⊢;exact ⟨G1,ρ,d,t1.s,er.step t1,ef,λG' H' t=>k G' H' (t1.trans t)⟩
theorem zLy (ha:SB X a p):SB X (.UnaryOp .Not a pos) (zRH p):=zHX (zPu ha) λσ H Q=>by
 rintro ⟨G,ρ,d,s,er,ef,k⟩
 obtain ⟨c,e1,rfl⟩:=zUt.mp ef
 exact ⟨G,ρ,c,s,er,e1,λG1 H1 t1=>k G1 H1 t1⟩
def truD:D->Option Bool
 |.non=>some false
 |.bl b=>some b
 |.int i=>some (i != 0)
 |.str x=>if x.length<=sizeLine then some ((x.length:Int) != 0) else none
 |.tup xs=>some (!xs.isEmpty)
 |.lst xs=>some (!xs.isEmpty)
theorem zFm {K:Fg} {G:Hp} {xs:List D} {vs:List V} (h:Reps K G xs vs):xs.isEmpty=vs.isEmpty:=by
 have:=h.length
 cases xs<;>cases vs<;>simp_all
noncomputable def zLI (f:ROd):ROb:=λρ=>(f ρ).bind truD
theorem zEc (ha:SR X a f) (he:∀ whole,isTrue a X.env whole=(do let v <- whole;standAt a.pos;holding [v] (truthy v)):=by intro _;rfl):SB X a (zLI f):=
 zHX (zJZ ha he) λσ H Q=>by
  rintro ⟨G,ρ,b,s,er,ef,k⟩
  obtain ⟨d,e1,ef⟩:=zUs.mp ef
  refine ⟨G,ρ,d,s,er,e1,λv G1 H1 t1 r1=>⟨b,?_,k G1 H1 t1⟩⟩
  cases d with
  |non=>cases ef;rw [r1.non];exact rfl
  |bl c=>cases ef;rw [r1.bl];exact rfl
  |int c=>cases ef;rw [r1.int];exact rfl
  |str c=>
   simp only [truD] at ef
   split at ef
   ·rename_i h;cases ef;rw [r1.str];exact ⟨h,rfl⟩
   ·cases ef
  |tup xs=>cases ef;obtain ⟨a,vs,rfl,q,r⟩:=r1.tup t1.s;exact .inr (.inl ⟨vs,q,by rw [zFm r]⟩)
  |lst xs=>cases ef;obtain ⟨a,vs,rfl,q,r⟩:=r1.list t1.s;exact .inl ⟨vs,q,by rw [zFm r]⟩
def zOG (f g:ROd):ROd:=λρ=>(f ρ).bind λx=>(asB x).bind λb=>if b=true then g ρ else some (.bl false)
def vOr (f g:ROd):ROd:=λρ=>(f ρ).bind λx=>(asB x).bind λb=>if b=true then some (.bl true) else g ρ
def vNot (f:ROd):ROd:=λρ=>(f ρ).bind λx=>(asB x).map λb=>.bl (!b)
theorem zHZ {op} (h:SE X a f):SE X (.BoolOp op [a] pos) f:=zS2 h
theorem zHa (ha:SE X a f) (hb:SE X (.BoolOp .And (b::rest) pos) g):SE X (.BoolOp .And (a::b::rest) pos) (zOG f g):=
 zAy (zS3 ha hb) λσ H Q=>by
  rintro ⟨G,ρ,d,s,er,ef,k⟩
  obtain ⟨x,e1,ef1⟩:=zUs.mp ef
  obtain ⟨c,e2,ef2⟩:=zUs.mp ef1
  have e3:=zFl e2
  subst e3
  refine ⟨G,ρ,_,s,er,e1,λv1 G1 H1 t1 r1=>⟨c,yO.mp r1,?_⟩⟩
  cases c with
  |false=>rw [zVe zVV] at ef2 ⊢;cases ef2;exact k _ G1 H1 t1 (yO.mpr rfl)
  |true=>rw [zVE rfl] at ef2 ⊢;exact ⟨G1,ρ,d,t1.s,er.step t1,ef2,λv G' H' t r=>k v G' H' (t1.trans t) r⟩
theorem se_or (ha:SE X a f) (hb:SE X (.BoolOp .Or (b::rest) pos) g):SE X (.BoolOp .Or (a::b::rest) pos) (vOr f g):=
 zAy (pe_or ha hb) λσ H Q=>by
  rintro ⟨G,ρ,d,s,er,ef,k⟩
  obtain ⟨x,e1,ef1⟩:=zUs.mp ef
  obtain ⟨c,e2,ef2⟩:=zUs.mp ef1
  have e3:=zFl e2
  subst e3
  refine ⟨G,ρ,_,s,er,e1,λv1 G1 H1 t1 r1=>⟨c,yO.mp r1,?_⟩⟩
  cases c with
  |true=>rw [zVE rfl] at ef2 ⊢;cases ef2;exact k _ G1 H1 t1 (yO.mpr rfl)
  |false=>rw [zVe zVV] at ef2 ⊢;exact ⟨G1,ρ,d,t1.s,er.step t1,ef2,λv G' H' t r=>k v G' H' (t1.trans t) r⟩
theorem zTc (ha:SE X a f):SE X (.UnaryOp .Not a pos) (vNot f):=zAy (zS4 ha) λσ H Q=>by
 rintro ⟨G,ρ,d,s,er,ef,k⟩
 obtain ⟨x,e1,ef⟩:=zUs.mp ef
 obtain ⟨c,e2,rfl⟩:=zUt.mp ef
 have e3:=zFl e2
 subst e3
 exact ⟨G,ρ,_,s,er,e1,λv1 G1 H1 t1 r1=>⟨c,yO.mp r1,k _ G1 H1 t1 (yO.mpr rfl)⟩⟩
noncomputable def zB (f:ROd) (g:ROl):ROl:=λρ=>(f ρ).bind λx=>(g ρ).map λxs=>x::xs
theorem zG:SA X [] zO:=⟨zOD yy λσ H Q=>by rintro ⟨G,ρ,d,s,er,ef,k⟩;cases ef;exact k [] G H (zd.refl s) Reps.nil,λρ ds h=>by cases h;rfl⟩
theorem zA (ha:SE X e f) (hr:SA X es fl) (hs:starEach (e::es) X.env=(false,eval e X.env)::starEach es X.env:=by rfl):SA X (e::es) (zB f fl):=by
 refine ⟨zOD (yD ha hr.pa hs) λσ H Q ⟨G,ρ,d,s,er,ef,k⟩=>?_,λρ ds h=>?_⟩
 ·obtain ⟨x,e1,ef⟩:=zUs.mp ef
  obtain ⟨xs,e2,rfl⟩:=zUt.mp ef
  exact ⟨G,ρ,x,s,er,e1,λv1 G1 H1 t1 r1=>⟨G1,ρ,xs,t1.s,er.step t1,e2,λvs G2 H2 t2 r2=>k _ G2 H2 (t1.trans t2) (Reps.cons (Rep.mono t2.g _ _ r1) r2)⟩⟩
 ·obtain ⟨x,e1,ef⟩:=zUs.mp h
  obtain ⟨xs,e2,rfl⟩:=zUt.mp ef
  rw [zUv,zUv,hr.len ρ xs e2]
theorem zAc {n:Nat} (h:n<=1000):n<=sizeLine:=Nat.le_of_lt (zLt h)
theorem zU {x1} (h:SA X es fl) (hl:es.length<=1000:=by decide):SE X (.Tuple es x1 pos) (λρ=>(fl ρ).map D.tup):=zAy (zTJ h.pa) λσ H Q=>by
 rintro ⟨G,ρ,d,s,er,ef,k⟩
 obtain ⟨xs,e1,rfl⟩:=zUt.mp ef
 refine ⟨G,ρ,xs,s,er,e1,λvs G1 H1 t1 r1=>⟨by rw [<- r1.length,h.len _ _ e1];exact zAc hl,λp hp=>?_⟩⟩
 exact k _ _ _ (t1.trans (zd.new t1.s hp)) (zBI.mpr ⟨p,vs,rfl,zN,Reps.mono (yh (t1.s.free hp)) _ _ r1⟩)
theorem yo (h:SA X es fl) (hl:es.length<=1000:=by decide):SF X (.List es pos) fl:=zAy (zLc h.pa) λσ H Q=>by
 rintro ⟨G,ρ,xs,s,er,ef,k⟩
 refine ⟨G,ρ,xs,s,er,ef,λvs G1 H1 t1 r1=>⟨by rw [<- r1.length,h.len _ _ ef];exact zAc hl,λp hp=>?_⟩⟩
 exact k p vs G1 (upd H1 p (.lst vs)) (t1.trans (zd.newH t1.s hp)) (t1.h.free hp) (t1.s.free hp) zN r1
def spD (K:Fg) (f:List D->Option D) (n:Nat):Sp:=λvs H Q _=>∃ G ds d,zf G H/\Reps K G ds vs/\ds.length=n/\f ds=some d/\∀ v G' H',zd G H G' H'->Rep K G' d v->Q v H'
theorem zRI {k n:Nat} {fa:Addr} {fd:FuncData} {ps:List Str} {F:List D->Option D} {x:Str} {p:Pos} (FO:zCe X.prog X.w X.K X.mg X.base CX0 k fa fd ps (spD X.K F n)) (hr:zAB k X.A) (hg:Gl X x) (hm:X.mg x=some (.ref fa)) (hk:PySem.W.keepIn X.K (.ref fa)=true)
  (hb:zAx X.K fd ps []) (hn:(e::es).length=n) (ha:SA X (e::es) fl) (hdb:(x == ("__debug__" : Str))=false:=by decide) (he:starEach (e::es) X.env=(false,eval e X.env)::starEach es X.env:=by rfl)
  (hpl:(backTo pos (starEach es X.env)).any (·.1)=false:=by rfl):SE X (.Call (.Name x p) (e::es) [] pos) (λρ=>(fl ρ).bind F):=
 zAy (zEW (E:=E0) FO hr hg hm hk hb .nil zIb ha.pa hdb he hpl) λσ H Q=>by
  rintro ⟨G,ρ,d,s,er,ef,k⟩
  obtain ⟨xs,e1,e2⟩:=zUs.mp ef
  refine ⟨G,ρ,xs,s,er,e1,λvs G1 H1 t1 r1=>?_⟩
  show spD X.K F n (vs ++ []) H1 Q E0
  rw [zVZ]
  exact ⟨G1,xs,d,t1.s,r1,by rw [ha.len _ _ e1,hn],e2,λv G' H' t r=>k v G' H' (t1.trans t) r⟩
def cR (K:Fg) (op:D->Option D):List V->Hp->VK->Prop:=λxs H Q=>∃ G d1 d x,xs = [x]/\zf G H/\zCE K G H d1 x/\op d1=some d/\∀ v G' H',zd G H G' H'->Rep K G' d v->Q v H'
def cF (K:Fg) (op:D->Option (List D)):List V->Hp->VK->Prop:=λxs H Q=>∃ G d1 ys x,xs = [x]/\zf G H/\zCE K G H d1 x/\op d1=some ys /\
 ∀ a vs G' H',zd G H G' H'->H a=none->G' a=none->H' a=some (.lst vs)->Reps K G' ys vs->Q (.ref a) H'
variable {x:Str} {p1:Pos} {id T:String}
noncomputable def b1 (f:ROd) (op:D->Option D):ROd:=λρ=>(f ρ).bind op
theorem zTd {K:Fg} {op:D->Option D} {σ:L2.St} {H:Hp} {Q:VK} (h:tE K (b1 f op) σ H Q):tCB (cR K op) (zQy (tR K f) tNil) σ H Q:=by
 obtain ⟨G,ρ,d,s,er,ef,k⟩:=h
 obtain ⟨d1,e1,ef⟩:=zUs.mp ef
 exact ⟨G,ρ,d1,s,er,e1,λv1 G1 H1 t1 r1=>⟨G1,d1,d,v1,rfl,t1.s,r1,ef,λv G' H' t r=>k v G' H' (t1.trans t) r⟩⟩
noncomputable def b1F (f:ROd) (op:D->Option (List D)):ROl:=λρ=>(f ρ).bind op
theorem zP1 {K:Fg} {op:D->Option (List D)} {σ:L2.St} {H:Hp} {Q:VK} (h:tF K (b1F f op) σ H Q):tCB (cF K op) (zQy (tR K f) tNil) σ H Q:=by
 obtain ⟨G,ρ,d,s,er,ef,k⟩:=h
 obtain ⟨d1,e1,ef⟩:=zUs.mp ef
 exact ⟨G,ρ,d1,s,er,e1,λv1 G1 H1 t1 r1=>⟨G1,d1,d,v1,rfl,t1.s,r1,ef,λa vs G' H' t h1 h2 h3 r=>k a vs G' H' (t1.trans t) (t1.h.free h1) h2 h3 r⟩⟩
theorem yC {op:D->Option D} (hc:zAl X (.builtin id) (cR X.K op)) (hg:Gl X x) (hm:X.mg x=none) (hv:bootBuiltins x=some (.builtin id)) (ha:SR X a f) (hn:x ≠ "__name__":=by decide) (hdb:(x == ("__debug__" : Str))=false:=by decide)
  (hs:starEach [a] X.env=(false,eval a X.env)::starEach [] X.env:=by rfl) (he:starEach [a] X.env=(false,eval a X.env)::starEach [] X.env:=by rfl) (hpl:(backTo pos (starEach [] X.env)).any (·.1)=false:=by rfl):SE X (.Call (.Name x p1) [a] [] pos) (b1 f op):=
 zAy (zCq hc hg hm hv (yD ha yy hs) hn hdb he hpl) λ_ _ _ h=>zTd h
theorem yQ {op:D->Option D} (hc:zAl X (.type T) (cR X.K op)) (hg:Gl X x) (hm:X.mg x=none) (hv:bootBuiltins x=some (.type T)) (ha:SR X a f) (hn:x ≠ "__name__":=by decide) (hdb:(x == ("__debug__" : Str))=false:=by decide)
  (hs:starEach [a] X.env=(false,eval a X.env)::starEach [] X.env:=by rfl) (he:starEach [a] X.env=(false,eval a X.env)::starEach [] X.env:=by rfl) (hpl:(backTo pos (starEach [] X.env)).any (·.1)=false:=by rfl):SE X (.Call (.Name x p1) [a] [] pos) (b1 f op):=
 zAy (zEX hc hg hm hv (yD ha yy hs) hn hdb he hpl) λ_ _ _ h=>zTd h
theorem zJi {op:D->Option (List D)} (hc:zAl X (.builtin id) (cF X.K op)) (hg:Gl X x) (hm:X.mg x=none) (hv:bootBuiltins x=some (.builtin id)) (ha:SR X a f) (hn:x ≠ "__name__":=by decide) (hdb:(x == ("__debug__" : Str))=false:=by decide)
  (hs:starEach [a] X.env=(false,eval a X.env)::starEach [] X.env:=by rfl) (he:starEach [a] X.env=(false,eval a X.env)::starEach [] X.env:=by rfl) (hpl:(backTo pos (starEach [] X.env)).any (·.1)=false:=by rfl):SF X (.Call (.Name x p1) [a] [] pos) (b1F f op):=
 zAy (zCq hc hg hm hv (yD ha yy hs) hn hdb he hpl) λ_ _ _ h=>zP1 h
theorem zLz {op:D->Option (List D)} (hc:zAl X (.type T) (cF X.K op)) (hg:Gl X x) (hm:X.mg x=none) (hv:bootBuiltins x=some (.type T)) (ha:SR X a f) (hn:x ≠ "__name__":=by decide) (hdb:(x == ("__debug__" : Str))=false:=by decide)
  (hs:starEach [a] X.env=(false,eval a X.env)::starEach [] X.env:=by rfl) (he:starEach [a] X.env=(false,eval a X.env)::starEach [] X.env:=by rfl) (hpl:(backTo pos (starEach [] X.env)).any (·.1)=false:=by rfl):SF X (.Call (.Name x p1) [a] [] pos) (b1F f op):=
 zAy (zEX hc hg hm hv (yD ha yy hs) hn hdb he hpl) λ_ _ _ h=>zP1 h
end
inductive Out where
 |nx (ρ:Rho)|rt (d:D)|bk (ρ:Rho)|ct (ρ:Rho)
  |ro (s:Sl)
  |rm (d:D) (ρ:Rho)
abbrev ROo:=Rho->Option Out
def zSp (K:Fg) (G0 H0:Hp) (E:zLR):Out->Prop
 |.nx ρ=>∀ σ G H,StR K G0 H0 G H ρ σ->E.nx σ H
 |.bk ρ=>∀ σ G H,StR K G0 H0 G H ρ σ->E.bk σ H
 |.ct ρ=>∀ σ G H,StR K G0 H0 G H ρ σ->E.ct σ H
 |.rt d=>∀ v G H,Bs G0 H0 G H->Rep K G d v->E.rt v H
 |.ro s=>∀ a G H,Bs G0 H0 G H->zJg K G H s a->(∀ c∈fpS H s a,G c=none/\H0 c=none)->E.rt (.ref a) H
 |.rm d ρ=>∀ v σ G H,StR K G0 H0 G H ρ σ->Rep K G d v->E.rt v H
def tS (K:Fg) (F:ROo):TS:=λE σ H=>∃ G0 H0 G ρ o,StR K G0 H0 G H ρ σ/\F ρ=some o/\zSp K G0 H0 E o
abbrev SS (X:Cx) (s:Stmt) (F:ROo):Prop:=PS X s (tS X.K F)
abbrev SSs (X:Cx) (s:List Stmt) (F:ROo):Prop:=PSs X s (tS X.K F)
section
variable {X:Cx} {e a b:Expr} {es:List Expr} {f g:ROd} {fl:ROl} {p:ROb} {pos:Pos} {F F':ROo} {st:Stmt} {rest:List Stmt}
noncomputable def sq (F F':ROo):ROo:=λρ=>(F ρ).bind λo=>match o with
 |.nx ρ'=>F' ρ'
 |o=>some o
theorem z9:SSs X [] (λρ=>some (.nx ρ)):=zHY zQk λQ σ H=>by rintro ⟨G0,H0,G,ρ,o,st,ef,k⟩;cases ef;exact k σ G H st
theorem zH (h1:SS X st F) (h2:SSs X rest F'):SSs X (st::rest) (sq F F'):=zHY (zJW h1 h2) λQ σ H=>by
 rintro ⟨G0,H0,G,ρ,o,st,ef,k⟩
 obtain ⟨o1,e1,e2⟩:=zUs.mp ef
 refine ⟨G0,H0,G,ρ,o1,st,e1,?_⟩
 cases o1 with
 |nx ρ'=>exact λσ' G' H' st'=>⟨G0,H0,G',ρ',o,st',e2,k⟩
 |rt d=>cases e2;exact k
 |ro d=>cases e2;exact k
 |rm d ρ=>cases e2;exact k
 |bk d=>cases e2;exact k
 |ct d=>cases e2;exact k
theorem zL (h1:SS X st F):SSs X [st] F:=zLS h1
theorem zP2 (i:Nat) (h:SSs X rest F):SSs X rest (λρ=>F (frz i ρ)):=zHY h λQ σ H=>by
 rintro ⟨G0,H0,G,ρ,o,st,ef,k⟩
 obtain ⟨G',sG,st'⟩:=st.frz i
 exact ⟨G0,H0,G',frz i ρ,o,st',ef,k⟩
theorem zRJ:SS X (.Continue pos) (λρ=>some (.ct ρ)):=yY zIW λQ σ H=>by rintro ⟨G0,H0,G,ρ,o,st,ef,k⟩;cases ef;exact k σ G H st
noncomputable def zAC (f:ROd):ROo:=λρ=>(f ρ).map .rt
theorem zw (he:SE X e f):SS X (.Return (some e) pos) (zAC f):=yY (zFh he) λQ σ H=>by
 rintro ⟨G0,H0,G,ρ,o,st,ef,k⟩
 obtain ⟨d,e1,rfl⟩:=zUt.mp ef
 exact ⟨G,ρ,d,st.bs.gh,st.er,e1,λv G' H' t r=>k v G' H' (st.bs.step t) r⟩
theorem zL0 (i:Nat) (he:PE X e (zBG i)):SS X (.Return (some e) pos) (zAC λρ=>zLH ρ i):=yY (zFh he) λQ σ H=>by
 rintro ⟨G0,H0,G,ρ,o,st,ef,k⟩
 obtain ⟨d,e1,rfl⟩:=zUt.mp ef
 rcases zLw e1 with e3|⟨xs,rfl,e3⟩
 ·obtain ⟨v,q,r⟩:=st.er.val i d e3
  exact ⟨v,q,k v G H st.bs r⟩
 ·obtain ⟨G',sG,st'⟩:=st.frz i
  have e2:frz i ρ=ρ.set i (.v (.lst xs)):=by unfold frz;rw [e3]
  rw [e2] at st'
  obtain ⟨v,q,r⟩:=st'.er.val i (.lst xs) (zVQ (zU7.mp e3).1)
  exact ⟨v,q,k v G' H st'.bs r⟩
noncomputable def sIf (c:ROb) (F F':ROo):ROo:=λρ=>(c ρ).bind λb=>if b=true then F ρ else F' ρ
theorem yz {c:Expr} {A B:List Stmt} (hc:SB X c p) (ha:SSs X A F) (hb:SSs X B F'):SS X (.If c A B pos) (sIf p F F'):=yY (zQl hc ha hb) λQ σ H=>by
 rintro ⟨G0,H0,G,ρ,o,st,ef,k⟩
 obtain ⟨d,e1,e2⟩:=zUs.mp ef
 refine ⟨G,ρ,d,st.bs.gh,st.er,e1,λG' H' t=>?_⟩
 cases d with
 |true=>rw [zVE rfl] at e2 ⊢;exact ⟨G0,H0,G',ρ,o,st.step t,e2,k⟩
 |false=>rw [zVe zVV] at e2 ⊢;exact ⟨G0,H0,G',ρ,o,st.step t,e2,k⟩
noncomputable def qI (i:Nat) (f:ROd):ROo:=λρ=>(f ρ).map λd=>.nx (ρ.set i (.v d))
noncomputable def qr (i:Nat) (f:ROl):ROo:=λρ=>(f ρ).map λd=>.nx (ρ.set i (.l d))
variable {i:Nat} {x:Str} {pos':Pos}
theorem zh (i:Nat) (he:SE X e f) (hN:X.N.Nodup) (hi:X.N[i]?=some x) (hx:Loc X.env.scope x) (hs:swapsWith e (some (.Name x pos')) pos.line X.env=pure false:=by rfl)
  (hf:X.fn x=true\/X.env.scope.names.lookup x=some .local:=by first|exact .inl rfl|exact .inr rfl|assumption):SS X (.Assign [.Name x pos'] e pos) (qI i f):=
 yY (zDw hN hi hx he hs hf) λQ σ H=>by
  rintro ⟨G0,H0,G,ρ,o,st,ef,k⟩
  obtain ⟨d,e1,rfl⟩:=zUt.mp ef
  exact ⟨G,ρ,d,st.bs.gh,st.er,e1,λv G' H' t r=>k _ G' H' ((st.step t).setV r)⟩
theorem qE (i:Nat) (he:SF X e fl) (hN:X.N.Nodup) (hi:X.N[i]?=some x) (hx:Loc X.env.scope x) (hs:swapsWith e (some (.Name x pos')) pos.line X.env=pure false:=by rfl)
  (hf:X.fn x=true\/X.env.scope.names.lookup x=some .local:=by first|exact .inl rfl|exact .inr rfl|assumption):SS X (.Assign [.Name x pos'] e pos) (qr i fl):=
 yY (zDw hN hi hx he hs hf) λQ σ H=>by
  rintro ⟨G0,H0,G,ρ,o,st,ef,k⟩
  obtain ⟨d,e1,rfl⟩:=zUt.mp ef
  refine ⟨G,ρ,d,st.bs.gh,st.er,e1,λa vs G' H' t h1 h2 h3 r=>k _ G' H' (st.setOwn t rfl h1 h2 (λxs z=>?_) λ_ z=>by cases z)⟩
  cases z;exact ⟨vs,h3,r⟩
def tGt (K:Fg) (g:D->Rho->Option Rho):TG:=λv σ H Q=>∃ G0 H0 G ρ d ρ',StR K G0 H0 G H ρ σ/\Rep K G d v/\g d ρ=some ρ'/\∀ σ',StR K G0 H0 G H ρ' σ'->Q σ' H
def tGts (K:Fg) (g:List D->Rho->Option Rho):TGs:=λvs σ H Q=>∃ G0 H0 G ρ ds ρ',StR K G0 H0 G H ρ σ/\Reps K G ds vs/\g ds ρ=some ρ'/\∀ σ',StR K G0 H0 G H ρ' σ'->Q σ' H
abbrev SG (X:Cx) (e:Expr) (g:D->Rho->Option Rho):Prop:=PG X e (tGt X.K g)
abbrev SGs (X:Cx) (e:List Expr) (g:List D->Rho->Option Rho):Prop:=PGs X e (tGts X.K g)
theorem zTe {X:Cx} {e:Expr} {t t':TG} (h:PG X e t) (w:∀ v σ H Q,t' v σ H Q->t v σ H Q):PG X e t':=λpins s σ H v u Q I r q=>h pins s σ H v u Q I r (w v σ H Q q)
theorem zP3 {X:Cx} {e:List Expr} {t t':TGs} (h:PGs X e t) (w:∀ v σ H Q,t' v σ H Q->t v σ H Q):PGs X e t':=λpins s σ H v u Q I r q=>h pins s σ H v u Q I r (w v σ H Q q)
noncomputable def gN (i:Nat):D->Rho->Option Rho:=λd ρ=>some (ρ.set i (.v d))
theorem zQ (i:Nat) (hN:X.N.Nodup) (hi:X.N[i]?=some x) (hx:Loc X.env.scope x) (hf:X.fn x=true\/X.env.scope.names.lookup x=some .local:=by first|exact .inl rfl|exact .inr rfl|assumption):SG X (.Name x pos) (gN i):=
 zTe (zQm hN hi hx hf) λv σ H Q=>by
  rintro ⟨G0,H0,G,ρ,d,ρ',st,r,e,k⟩
  cases e
  exact k _ (st.setV r)
def gNl:List D->Rho->Option Rho:=λds ρ=>match ds with
 | []=>some ρ
 |_=>none
noncomputable def gCs (g:D->Rho->Option Rho) (gs:List D->Rho->Option Rho):List D->Rho->Option Rho:=λds ρ=>match ds with
 | []=>none
 |d::r=>(g d ρ).bind λρ'=>gs r ρ'
theorem qY:SGs X [] gNl:=zP3 zQn λv σ H Q=>by
 rintro ⟨G0,H0,G,ρ,ds,ρ',st,r,e,k⟩
 cases ds with
 |nil=>cases e;exact ⟨yP.mp r,k σ st⟩
 |cons _ _=>cases e
theorem zZ {gd:D->Rho->Option Rho} {gs:List D->Rho->Option Rho} (h1:SG X e gd) (h2:SGs X es gs) (hs:(assignEach (e::es) X.env).map (·.2)=assign e X.env::(assignEach es X.env).map (·.2):=by rfl):SGs X (e::es) (gCs gd gs):=
 zP3 (zN0 h1 h2 hs) λvs σ H Q=>by
  rintro ⟨G0,H0,G,ρ,ds,ρ',st,r,e,k⟩
  cases ds with
  |nil=>cases e
  |cons d ds=>
   obtain ⟨v,r',rfl,rd,rs⟩:=za.mp r
   obtain ⟨ρ1,e1,e2⟩:=zUs.mp e
   exact ⟨v,r',rfl,G0,H0,G,ρ,d,ρ1,st,rd,e1,λσ' st'=>⟨G0,H0,G,ρ1,ds,ρ',st',rs,e2,k⟩⟩
noncomputable def gT (n:Nat) (gs:List D->Rho->Option Rho):D->Rho->Option Rho:=λd ρ=>match d with
 |.tup ds=>if ds.length=n then gs ds ρ else none
 |_=>none
theorem zAz {k n:Nat} {gs:List D->Rho->Option Rho} (hc:X.calm=true) (h:SGs X es gs) (hn:(assignEach es X.env).length=n:=by rfl) (hst:(assignEach es X.env).findIdx? (·.1)=none:=by rfl):SG X (.Tuple es k pos) (gT n gs):=
 zTe (zS7 hc h hn hst) λv σ H Q=>by
  rintro ⟨G0,H0,G,ρ,d,ρ',st,r,e,k⟩
  cases d with
  |tup ds=>
   simp only [gT] at e
   split at e
   ·rename_i hl
    obtain ⟨a,vs,rfl,q,rs⟩:=zCf r
    exact ⟨a,vs,rfl,qL st.bs.gh q,by rw [<- rs.length];exact hl,G0,H0,G,ρ,ds,ρ',st,rs,e,k⟩
   ·cases e
  |_=>cases e
noncomputable def zP4 (f:ROd) (g:D->Rho->Option Rho):ROo:=λρ=>(f ρ).bind λd=>(g d ρ).map .nx
theorem zJj {tg:Expr} {gd:D->Rho->Option Rho} (he:SE X e f) (hg:SG X tg gd) (hs:swapsWithSole [tg] e pos.line X.env=pure false:=by rfl) (hw:swappedStores [tg] e X.env=pure none:=by rfl)
  (h1:(assignEach [tg] X.env).map (·.2) = [assign tg X.env]:=by rfl):SS X (.Assign [tg] e pos) (zP4 f gd):=
 yY (zLT he hg hs hw h1) λQ σ H=>by
  rintro ⟨G0,H0,G,ρ,o,st,ef,k⟩
  obtain ⟨d,e1,e2⟩:=zUs.mp ef
  obtain ⟨ρ',e3,rfl⟩:=zUt.mp e2
  exact ⟨G,ρ,d,st.bs.gh,st.er,e1,λv G' H' t r=>⟨G0,H0,G',ρ,d,ρ',st.step t,r,e3,λσ' st'=>k σ' G' H' st'⟩⟩
structure zNs (K:Fg) (G:Hp) (J:It) (ds:List D):Prop where
 go:∀ i H,zf G H->i<ds.length->J.go i H
 stop:∀ i H,zf G H->ds.length<=i->J.stop i H
 yld:∀ i G1 H x H',zf G G1->zf G1 H->i<ds.length->J.yld i H x H'->∃ G2,zd G1 H G2 H'/\∀ d,ds[i]?=some d->Rep K G2 d x
def tI (K:Fg) (f:ROl):TI:=λσ H R=>∃ G ρ ds,zf G H/\Er K G H ρ σ/\f ρ=some ds/\∀ J G' H',zd G H G' H'->zNs K G' J ds->R J H'
abbrev SI (X:Cx) (tg iter:Expr) (f:ROl):Prop:=PI X tg iter (tI X.K f)
theorem zOH {X:Cx} {tg e:Expr} {t t':TI} (h:PI X tg e t) (w:∀ σ H Q,t' σ H Q->t σ H Q):PI X tg e t':=λpins s σ H Q I q=>h pins s σ H Q I (w σ H Q q)
noncomputable def zc (g:D->Rho->Option Rho) (F:ROo):List D->Rho->Option Out
 | [],ρ=>some (.nx ρ)
 |d::ds,ρ=>(g d ρ).bind λρ1=>(F ρ1).bind λo=>match o with
  |.nx ρ'=>zc g F ds ρ'
  |.ct ρ'=>zc g F ds ρ'
  |.bk ρ'=>some (.nx ρ')
  |.rt d=>some (.rt d)
  |.ro s=>some (.ro s)
  |.rm d ρ=>some (.rm d ρ)
noncomputable def zi (f:ROl) (g:D->Rho->Option Rho) (F:ROo):ROo:=λρ=>(f ρ).bind λds=>zc g F ds ρ
def qM (H:Hp) (ρ:Rho) (σ:L2.St):Hp:=λb=>@ite _ (∃ (i:Nat) (s:Sl) (a:Addr),ρ[i]?=some s/\s.isOwn=true/\σ[i]?=some (some (.ref a))/\b∈fpS H s a) (Classical.propDecidable _) none (H b)
theorem zEd {H:Hp} {ρ:Rho} {σ:L2.St}:zf (qM H ρ σ) H:=λb o e=>by
 unfold qM at e
 split at e
 ·cases e
 ·exact e
theorem zDX {H:Hp} {ρ:Rho} {σ:L2.St} {b a:Addr} {i:Nat} {s:Sl} (h:ρ[i]?=some s) (o:s.isOwn=true) (q:σ[i]?=some (some (.ref a))) (m:b∈fpS H s a):qM H ρ σ b=none:=by
 unfold qM
 rw [zVE ⟨i,s,a,h,o,q,m⟩]
theorem StR.base {K:Fg} {G0 H0 G H:Hp} {ρ:Rho} {σ:L2.St} (s:StR K G0 H0 G H ρ σ):StR K G (qM H ρ σ) G H ρ σ/\zf G0 G/\zf H0 (qM H ρ σ):=by
 refine ⟨⟨s.er,⟨s.bs.gh,zf.refl _,zEd,λb o e n=>by rw [e] at n;cases n⟩,λi u a h o q c m=>zDX h o q m⟩,s.bs.gg,λb o e=>?_⟩
 unfold qM
 split
 ·rename_i h
  obtain ⟨i,u,a,h1,h2,h3,h4⟩:=h
  rw [s.ows i u a h1 h2 h3 b h4] at e;cases e
 ·exact s.bs.hh b o e
theorem Bs.back {G0 H0 G1 H1 G H:Hp} (f:∀ b o,G1 b=some o->G0 b=none->H0 b=none) (g:zf G0 G1) (h:zf H0 H1) (b:Bs G1 H1 G H):Bs G0 H0 G H:=
 ⟨b.gh,g.trans b.gg,h.trans b.hh,λc o e n=>by
  cases q:G1 c with
  |some o'=>exact f c o' q n
  |none=>exact h.free (b.fr c o e q)⟩
theorem StR.back {K:Fg} {G0 H0 G1 H1 G H:Hp} {ρ:Rho} {σ:L2.St} (f:∀ b o,G1 b=some o->G0 b=none->H0 b=none) (g:zf G0 G1) (h:zf H0 H1) (s:StR K G1 H1 G H ρ σ):StR K G0 H0 G H ρ σ:=
 ⟨s.er,s.bs.back f g h,λi u a q o p c m=>h.free (s.ows i u a q o p c m)⟩
theorem zSp.back {K:Fg} {G0 H0 G1 H1:Hp} {E:zLR} {o:Out} (f:∀ b o,G1 b=some o->G0 b=none->H0 b=none) (g:zf G0 G1) (h:zf H0 H1) (k:zSp K G0 H0 E o):zSp K G1 H1 E o:=by
 cases o with
 |nx ρ=>exact λσ G H s=>k σ G H (s.back f g h)
 |bk ρ=>exact λσ G H s=>k σ G H (s.back f g h)
 |ct ρ=>exact λσ G H s=>k σ G H (s.back f g h)
 |rt d=>exact λv G H b r=>k v G H (b.back f g h) r
 |ro s=>exact λa G H b r n=>k a G H (b.back f g h) r λc m=>⟨(n c m).1,h.free (n c m).2⟩
 |rm d ρ=>exact λv σ G H s r=>k v σ G H (s.back f g h) r
theorem qX {tg iter:Expr} {body:List Stmt} {gd:D->Rho->Option Rho} (hp:PassesOwn (model X.prog X.w) X.A X.env X.xe) (hc:X.calm=true) (hi:SI X tg iter fl) (hg:SG X tg gd) (hb:SSs X body F)
  (hs:∀ x,foldedSetIterable iter X.env x=pure x:=by intro _;rfl):SS X (.For tg iter body [] pos) (zi fl gd F):=
 yY (zTA hp hc hi hg hb hs) λE σ H=>by
  rintro ⟨G0,H0,G,ρ,o,st,ef,k⟩
  obtain ⟨ds,e1,e2⟩:=zUs.mp ef
  refine ⟨G,ρ,ds,st.bs.gh,st.er,e1,λJ G1 H1 t1 it=>?_⟩
  obtain ⟨st1,sg,sh⟩:=(st.step t1).base
  have k1:=k.back (st.step t1).bs.fr sg sh
  generalize hH:qM H1 ρ σ=H1' at st1 k1 sh
  refine ⟨λi m σ' H'=>m=ds.length-i/\i<=ds.length/\∃ G' ρ',StR X.K G1 H1' G' H' ρ' σ'/\zc gd F (ds.drop i) ρ'=some o,⟨ds.length,by simp,zWS _,G1,ρ,st1,by simpa using e2⟩,?_⟩
  rintro i m σ2 H2 ⟨rfl,hi,G2,ρ2,st2,ef2⟩
  by_cases hlt:i<ds.length
  ·right
   have ed:ds.drop i=ds[i]::ds.drop (i+1):=zWR hlt
   rw [ed] at ef2
   obtain ⟨ρ3,e3,e4⟩:=zUs.mp ef2
   obtain ⟨o3,e5,e6⟩:=zUs.mp e4
   refine ⟨it.go i H2 (st2.bs.gg.trans st2.bs.gh) hlt,λσ' H'=>∃ G' ρ',StR X.K G1 H1' G' H' ρ' σ'/\zc gd F (ds.drop (i+1)) ρ'=some o,λσ' H' h=>⟨ds.length-(i+1),by omega,rfl,hlt,h⟩,λx H' y=>?_⟩
   obtain ⟨G3,t3,r3⟩:=it.yld i G2 H2 x H' st2.bs.gg st2.bs.gh hlt y
   refine ⟨G1,H1',G3,ρ2,ds[i],ρ3,st2.step t3,r3 _ (by simp [hlt]),e3,λσ4 st4=>⟨G1,H1',G3,ρ3,o3,st4,e5,?_⟩⟩
   cases o3 with
   |nx ρ'=>exact λσ5 G5 H5 st5=>⟨G5,ρ',st5,e6⟩
   |ct ρ'=>exact λσ5 G5 H5 st5=>⟨G5,ρ',st5,e6⟩
   |bk ρ'=>cases e6;exact k1
   |rt d=>cases e6;exact k1
   |ro d=>cases e6;exact k1
   |rm d ρ=>cases e6;exact k1
  ·left
   have e:i=ds.length:=by omega
   subst e
   rw [List.drop_length] at ef2
   cases ef2
   exact ⟨it.stop _ H2 (st2.bs.gg.trans st2.bs.gh) (zVA _),k1 σ2 G2 H2 st2⟩
def zBd (c:ROb) (F:ROo):Nat->Rho->Option Out
 |0,_=>none
 |n+1,ρ=>(c ρ).bind λb=>if b=true then (F ρ).bind λo=>match o with
   |.nx ρ'=>zBd c F n ρ'
   |.ct ρ'=>zBd c F n ρ'
   |.bk ρ'=>some (.nx ρ')
   |.rt d=>some (.rt d)
   |.ro s=>some (.ro s)
   |.rm d ρ=>some (.rm d ρ)
  else some (.nx ρ)
theorem zOI (n:Nat) {c:Expr} {body:List Stmt} (hp:PassesOwn (model X.prog X.w) X.A X.env X.xe) (hc:SB X c p) (hb:SSs X body F):SS X (.While c body [] pos) (λρ=>zBd p F n ρ):=
 yY (zJX hp hc hb) λE σ H=>by
  rintro ⟨G0,H0,G,ρ,o,st,ef,k⟩
  refine ⟨λm σ' H'=>∃ G' ρ',StR X.K G0 H0 G' H' ρ' σ'/\zBd p F m ρ'=some o,⟨n,G,ρ,st,ef⟩,?_⟩
  rintro m σ2 H2 ⟨G2,ρ2,st2,ef2⟩
  cases m with
  |zero=>cases ef2
  |succ m=>
   obtain ⟨b,e1,e2⟩:=zUs.mp ef2
   refine ⟨G2,ρ2,b,st2.bs.gh,st2.er,e1,λG3 H3 t3=>?_⟩
   cases b with
   |false=>
    rw [zVe zVV] at e2 ⊢
    cases e2
    exact k σ2 G3 H3 (st2.step t3)
   |true=>
    rw [zVE rfl] at e2 ⊢
    obtain ⟨o3,e5,e6⟩:=zUs.mp e2
    refine ⟨λσ' H'=>∃ G' ρ',StR X.K G0 H0 G' H' ρ' σ'/\zBd p F m ρ'=some o,λσ' H' h=>⟨m,zXK _,h⟩,G0,H0,G3,ρ2,o3,st2.step t3,e5,?_⟩
    cases o3 with
    |nx ρ'=>exact λσ5 G5 H5 st5=>⟨G5,ρ',st5,e6⟩
    |ct ρ'=>exact λσ5 G5 H5 st5=>⟨G5,ρ',st5,e6⟩
    |bk ρ'=>cases e6;exact k
    |rt d=>cases e6;exact k
    |ro d=>cases e6;exact k
    |rm d ρ=>cases e6;exact k
theorem zRK {K:Fg} {G:Hp} {a:Addr} {vs:List V} {ds:List D} (h:SqL K G a vs) (r:Reps K G ds vs):zNs K G (Itl K a) ds where
 go:=λi H s hi=>⟨vs,vs[i]'(by rw [<- r.length];exact hi),s.seq h,by simp [<- r.length,hi]⟩
 stop:=λi H s hi=>⟨vs,s.seq h,by rw [<- r.length];exact hi⟩
 yld:=λi G1 H x H' s1 s hi y=>by
  obtain ⟨rfl,y⟩:=y
  refine ⟨G1,zd.refl s,λd e=>?_⟩
  obtain ⟨v,e1,e2⟩:=r.get e
  have:=y vs ((s1.trans s).seq h)
  rw [e1] at this;cases this
  exact Rep.mono s1 _ _ e2
theorem zTf {K:Fg} {G:Hp} {a:Addr} {vs:List V} {ds:List D} (h:SqT K G a vs) (r:Reps K G ds vs):zNs K G (Itt K a) ds where
 go:=λi H s hi=>⟨vs,vs[i]'(by rw [<- r.length];exact hi),qL s h,by simp [<- r.length,hi]⟩
 stop:=λi H s hi=>⟨vs,qL s h,by rw [<- r.length];exact hi⟩
 yld:=λi G1 H x H' s1 s hi y=>by
  obtain ⟨rfl,y⟩:=y
  refine ⟨G1,zd.refl s,λd e=>?_⟩
  obtain ⟨v,e1,e2⟩:=r.get e
  have:=y vs (qL (s1.trans s) h)
  rw [e1] at this;cases this
  exact Rep.mono s1 _ _ e2
def rng (lo:Int) (n:Nat):List D:=(List.range n).map λ(i:Nat)=>D.int (lo+(i:Int))
theorem zP5 {K:Fg} {G:Hp} (lo:Int) (n:Nat):zNs K G (L2.Itr lo n) (rng lo n) where
 go:=λi H s hi=>by show i<n;simpa [rng] using hi
 stop:=λi H s hi=>by show n<=i;simpa [rng] using hi
 yld:=λi G1 H x H' s1 s hi y=>by
  obtain ⟨rfl,rfl⟩:=y
  refine ⟨G1,zd.refl s,λd e=>?_⟩
  simp only [rng,zVc,zU4,zW3] at e hi
  rw [List.getElem?_range hi] at e
  cases e
  exact yE.mpr rfl
def asL:D->Option (List D)
 |.lst xs=>some xs
 |_=>none
def asT:D->Option (List D)
 |.tup xs=>some xs
 |_=>none
noncomputable def iL (f:ROd):ROl:=λρ=>(f ρ).bind asL
noncomputable def iT (f:ROd):ROl:=λρ=>(f ρ).bind asT
variable {tg:Expr}
theorem zBK (h:SE X e f):SI X tg e (iL f):=zOH (zQq h) λσ H R=>by
 rintro ⟨G,ρ,ds,s,er,ef,k⟩
 obtain ⟨d,e1,e2⟩:=zUs.mp ef
 cases d with
 |lst xs=>
  cases e2
  refine ⟨G,ρ,_,s,er,e1,λv G' H' t r=>?_⟩
  obtain ⟨a,vs,rfl,q,rs⟩:=zAL.mp r
  exact ⟨a,rfl,⟨vs,t.s.seq q⟩,k _ G' H' t (zRK q rs)⟩
 |_=>cases e2
theorem zCu (h:SE X e f):SI X tg e (iT f):=zOH (zS9 h) λσ H R=>by
 rintro ⟨G,ρ,ds,s,er,ef,k⟩
 obtain ⟨d,e1,e2⟩:=zUs.mp ef
 cases d with
 |tup xs=>
  cases e2
  refine ⟨G,ρ,_,s,er,e1,λv G' H' t r=>?_⟩
  obtain ⟨a,vs,rfl,q,rs⟩:=zCf r
  exact ⟨a,rfl,⟨vs,qL t.s q⟩,k _ G' H' t (zTf q rs)⟩
 |_=>cases e2
def inR (j:Int):Bool:=decide (-(2 ^ 62)<=j) && decide (j<2 ^ 62)
theorem zFn {j:Int} (h:inR j=true) : -(2 ^ 62)<=j/\j<2 ^ 62:=by simpa [inR] using h
noncomputable def iR1 (f:ROl):ROl:=λρ=>(f ρ).bind λds=>match ds with
 | [.int j]=>if inR j=true then some (rng 0 j.toNat) else none
 |_=>none
def iR2 (f:ROl):ROl:=λρ=>(f ρ).bind λds=>match ds with
 | [.int i,.int j]=>if (inR i && inR j)=true then some (rng i (j-i).toNat) else none
 |_=>none
theorem yZ {p pos:Pos} (hg:Gl X "range") (hm:X.mg "range" = none) (ha:SA X [a] fl) (hs:starEach [a] X.env = [(false,eval a X.env)]:=by rfl):SI X tg (.Call (.Name "range" p) [a] [] pos) (iR1 fl):=
 zOH (zLV hg hm ha.pa hs) λσ H R=>by
  rintro ⟨G,ρ,ds,s,er,ef,k⟩
  obtain ⟨xs,e1,e2⟩:=zUs.mp ef
  split at e2
  ·rename_i j
   split at e2
   ·rename_i hj
    cases e2
    refine ⟨G,ρ,_,s,er,e1,λvs G' H' t r=>?_⟩
    obtain ⟨v,r',rfl,r1,r2⟩:=za.mp r
    have:=yP.mp r2
    subst this
    exact ⟨j,by rw [yE.mp r1],(zFn hj).1,(zFn hj).2,k _ G' H' t (zP5 _ _)⟩
   ·cases e2
  ·cases e2
theorem zL1 {p pos:Pos} (hg:Gl X "range") (hm:X.mg "range" = none) (ha:SA X [a,b] fl) (hs:starEach [a,b] X.env = [(false,eval a X.env),(false,eval b X.env)]:=by rfl) (hs2:starEach [b] X.env = [(false,eval b X.env)]:=by rfl):SI X tg (.Call (.Name "range" p) [a,b] [] pos) (iR2 fl):=
 zOH (zLW hg hm ha.pa hs hs2) λσ H R=>by
  rintro ⟨G,ρ,ds,s,er,ef,k⟩
  obtain ⟨xs,e1,e2⟩:=zUs.mp ef
  split at e2
  ·rename_i i j
   split at e2
   ·rename_i hj
    cases e2
    rw [zVm] at hj
    refine ⟨G,ρ,_,s,er,e1,λvs G' H' t r=>?_⟩
    obtain ⟨v,r',rfl,r1,r2⟩:=za.mp r
    obtain ⟨v',r'',rfl,r3,r4⟩:=za.mp r2
    have:=yP.mp r4
    subst this
    exact ⟨i,j,by rw [yE.mp r1,yE.mp r3],⟨(zFn hj.1).1,(zFn hj.1).2,(zFn hj.2).1,(zFn hj.2).2⟩,k _ G' H' t (zP5 _ _)⟩
   ·cases e2
  ·cases e2
noncomputable def gL (ρ:Rho) (i:Nat):Option (List D):=match ρ[i]? with
 |some (.l xs)=>some xs
 |_=>none
theorem zOJ {ρ:Rho} {i:Nat} {xs:List D} (h:gL ρ i=some xs):ρ[i]?=some (.l xs):=by
 unfold gL at h
 split at h
 ·cases h;assumption
 ·cases h
end
def zDY (N:List Str) (F:ROo) (ds:List D):Option D:=(F (ds.map Sl.v++List.replicate (N.length-ds.length) .un)).bind λo=>match o with
 |.rt d=>some d
 |.nx _=>some .non
 |_=>none
theorem zGY {K:Fg} {G H:Hp} {N:List Str} {ds:List D} {vs:List V} (r:Reps K G ds vs):Er K G H (ds.map Sl.v++List.replicate (N.length-ds.length) .un) (L2.zBH N vs):=by
 have hl:=r.length
 have low:∀ {i:Nat} {s:Sl},(ds.map Sl.v++List.replicate (N.length-ds.length) .un)[i]?=some s->s = .un\/∃ d,s = .v d/\ds[i]?=some d:=λ{i s} h=>by
  by_cases hi:i<ds.length
  ·rw [zVP (by simpa using hi),zVc] at h
   cases q:ds[i]? with
   |none=>rw [q] at h;cases h
   |some d=>rw [q] at h;cases h;exact .inr ⟨d,rfl,rfl⟩
  ·rw [zVW (by simpa using hi),zVo] at h
   split at h<;>cases h
   exact .inl rfl
 refine ⟨by simp [L2.zBH,hl],λi d h=>?_,λi u h o=>?_,λi j s t a b ne h1 o1 h2 o2 q1 q2=>?_⟩
 ·rcases low h with z|⟨d',z,q⟩
  ·cases z
  ·cases z
   obtain ⟨v,e1,e2⟩:=r.get q
   have hi:i<vs.length:=(zU7.mp e1).1
   refine ⟨v,?_,e2⟩
   unfold L2.zBH
   rw [zVP (by simpa using hi),zVc,e1];rfl
 ·rcases low h with z|⟨d',z,q⟩<;>subst z<;>cases o
 ·rcases low h1 with z|⟨d',z,q⟩<;>subst z<;>cases o1
theorem zTg {P:Program} {w:World} {K:Fg} {mg:MGt} {base:Heap} {x qual:Str} {st:Stmt} {fa:Addr} {fd:FuncData} {N ps:List Str} {k:Nat} {F:ROo} {f:List D->Option D}
  (FF:Fun K x qual st fa fd) (S:zV N ps (zI st))
  (hbody:∀ (cdv:Value) (A:Around) (outer:List Env) (s:Shared) (H:Hp),zAB k (A.deeper (envOfC qual (zI st) s.heap.objs.size fa cdv))->SSs (zFS CX0 P w K mg base N qual (zI st) fa cdv A outer s H E0).nox (z8 st) F)
  (hf:∀ ds d,ds.length=ps.length->f ds=some d->zDY N F ds=some d):zCe P w K mg base CX0 (k+1) fa fd ps (spD K f ps.length):=by
 refine FF.ok S (λvs H Q E h=>?_) (λcdv A outer s H vs Q E hr h=>?_)
 ·obtain ⟨G,ds,d,_,r,hn,_⟩:=h
  rw [<- r.length,hn]
 ·obtain ⟨G,ds,d,sm,r,hn,ef,kk⟩:=h
  have h1:SSs (zFS CX0 P w K mg base N qual (zI st) fa cdv A outer s H E).nox (z8 st) F:=hbody cdv A outer s H hr
  refine ⟨_,h1,?_⟩
  obtain ⟨o,e1,e2⟩:=zUs.mp (hf ds d hn ef)
  have er:=zGY (N:=N) (H:=H) r
  refine ⟨G,H,G,_,o,⟨er,⟨sm,zf.refl _,zf.refl _,λb o e n=>by rw [e] at n;cases n⟩,λi u a h1 h2 h3=>?_⟩,e1,?_⟩
  ·obtain ⟨a',u',e3,e4,e5⟩:=er.ownAt h1 h2
   exfalso
   by_cases hi:i<ds.length
   ·rw [zVP (by simpa using hi),zVc] at h1
    cases q:ds[i]? with
    |none=>rw [q] at h1;cases h1
    |some d=>rw [q] at h1;cases h1;cases h2
   ·rw [zVW (by simpa using hi),zVo] at h1
    split at h1<;>cases h1
    cases h2
  ·cases o with
   |rt d'=>
    cases e2
    exact λv G' H' b r'=>kk v G' H' ⟨b.gg,b.hh,b.gh,b.fr⟩ r'
   |nx ρ=>
    cases e2
    exact λσ' G' H' st'=>kk .non G' H' ⟨st'.bs.gg,st'.bs.hh,st'.bs.gh,st'.bs.fr⟩ (qp.mpr rfl)
   |bk ρ=>cases e2
   |ct ρ=>cases e2
   |ro ρ=>cases e2
   |rm d ρ=>cases e2
end RD
namespace RD
open PySem PySem.Spec PyProof.Rows L2 SeqAt
mutual
def eqD:D->D->Bool
 |.non,.non=>true
 |.bl a,.bl b=>a == b
 |.bl a,.int i=>(if a then 1 else 0) == i
 |.int i,.bl a=>i == (if a then 1 else 0)
 |.int i,.int j=>i == j
 |.str x,.str y=>x == y
 |.tup xs,.tup ys=>eqL xs ys
 |.lst xs,.lst ys=>eqL xs ys
 |_,_=>false
def eqL:List D->List D->Bool
 | [],[]=>true
 |x::xs,y::ys=>eqD x y && eqL xs ys
 |_,_=>false
end
mutual
def dep:D->Nat
 |.tup xs=>depL xs+1
 |.lst xs=>depL xs+1
 |_=>0
def depL:List D->Nat
 | []=>0
 |x::xs=>max (dep x) (depL xs)
end
mutual
theorem zGZ:∀ d:D,eqD d d=true
 |.non=>by simp [eqD]
 |.bl _=>by simp [eqD]
 |.int _=>by simp [eqD]
 |.str _=>by simp [eqD]
 |.tup xs=>by simp only [eqD];exact eqL_refl xs
 |.lst xs=>by simp only [eqD];exact eqL_refl xs
theorem eqL_refl:∀ d:List D,eqL d d=true
 | []=>by simp [eqL]
 |x::xs=>by simp only [eqL,zGZ x,eqL_refl xs];rfl
end
theorem zCv:∀ {xs:List D} {i:Nat} {d:D},xs[i]?=some d->dep d<=depL xs
 | [],_,_,h=>by simp at h
 |x::xs,0,d,h=>by simp at h;subst h;simp only [depL];omega
 |x::xs,i+1,d,h=>by
  have:=zCv (xs:=xs) (i:=i) (by simpa using h)
  simp only [depL];omega
def eqI (xs ys:List D) (j:Nat):Bool:=match xs[j]?,ys[j]? with
 |some x,some y=>eqD x y
 |_,_=>true
theorem zIc:∀ xs ys:List D,((List.range (min xs.length ys.length)).all (eqI xs ys) && xs.length == ys.length)=eqL xs ys
 | [],[]=>by simp [eqL]
 | [],y::ys=>by simp [eqL]
 |x::xs,[]=>by simp [eqL]
 |x::xs,y::ys=>by
  have ih:=zIc xs ys
  have e1:min (x::xs).length (y::ys).length=min xs.length ys.length+1:=by simp only [zUv];omega
  have e2:((List.range (min xs.length ys.length)).map Nat.succ).all (eqI (x::xs) (y::ys))=(List.range (min xs.length ys.length)).all (eqI xs ys):=by
   rw [List.all_map]
   congr 1
  rw [e1,List.range_succ_eq_map,List.all_cons,e2]
  have e3:eqI (x::xs) (y::ys) 0=eqD x y:=by simp [eqI]
  have e4:((x::xs).length == (y::ys).length)=(xs.length == ys.length):=by
   simp only [zUv]
   rw [zXM];simp
  rw [e3,e4,Bool.and_assoc,ih]
  simp only [eqL]
theorem zOK (xs ys:List D) (h:xs.length=ys.length):(List.range xs.length).all (eqI xs ys)=eqL xs ys:=by
 rw [<- zIc xs ys,h,Nat.min_self]
 simp
theorem zL2:∀ xs ys:List D,xs.length≠ys.length->eqL xs ys=false
 | [],[],h=>absurd rfl h
 | [],y::ys,h=>by simp [eqL]
 |x::xs,[],h=>by simp [eqL]
 |x::xs,y::ys,h=>by
  simp only [eqL,zL2 xs ys (λz=>h (by simp [z])),Bool.and_false]
section
variable {X:Cx} {pins:PNt} {σ:L2.St} {G H:Hp} {s:Shared}
theorem zJk (I:Inv X pins σ H s) {a:Addr} {xs ys:List V} (h1:SqT X.K H a xs) (h2:SqL X.K H a ys):False:=by
 obtain ⟨_,_,⟨o,e,hc,_⟩,_⟩:=I.tuple h1
 obtain ⟨_,_,⟨o',n',e',hc',_⟩,_⟩:=I.list h2
 rw [e] at e';cases e'
 rw [hc] at hc'
 exact absurd hc' (by decide +kernel)
mutual
theorem Rep.inj (I:Inv X pins σ H s) (sm:zf G H):∀ (d d':D) (v:V),Rep X.K G d v->Rep X.K G d' v->d=d'
 |.non,d',v,h,h'=>by
  have e:=qp.mp h;subst e
  cases d'<;>simp_all [Rep]
 |.bl b,d',v,h,h'=>by
  have e:=yO.mp h;subst e
  cases d'<;>simp_all [Rep]
 |.int b,d',v,h,h'=>by
  have e:=yE.mp h;subst e
  cases d'<;>simp_all [Rep]
 |.str b,d',v,h,h'=>by
  have e:=zAK.mp h;subst e
  cases d'<;>simp_all [Rep]
 |.tup ds,d',v,h,h'=>by
  obtain ⟨a,vs,rfl,q,r⟩:=zCf h
  cases d' with
  |tup ds'=>
   obtain ⟨a',vs',e,q',r'⟩:=zCf h'
   cases e
   have e2:=I.tuple_inj (qL sm q) (qL sm q')
   subst e2
   rw [Reps.inj I sm ds ds' vs r r']
  |lst ds'=>
   obtain ⟨a',vs',e,q',r'⟩:=zAL.mp h'
   cases e
   exact (zJk I (qL sm q) (sm.seq q')).elim
  |_=>simp [Rep] at h'
 |.lst ds,d',v,h,h'=>by
  obtain ⟨a,vs,rfl,q,r⟩:=zAL.mp h
  cases d' with
  |lst ds'=>
   obtain ⟨a',vs',e,q',r'⟩:=zAL.mp h'
   cases e
   have e2:=I.list_inj (sm.seq q) (sm.seq q')
   subst e2
   rw [Reps.inj I sm ds ds' vs r r']
  |tup ds'=>
   obtain ⟨a',vs',e,q',r'⟩:=zCf h'
   cases e
   exact (zJk I (qL sm q') (sm.seq q)).elim
  |_=>simp [Rep] at h'
theorem Reps.inj (I:Inv X pins σ H s) (sm:zf G H):∀ (d d':List D) (v:List V),Reps X.K G d v->Reps X.K G d' v->d=d'
 |[],d',v,h,h'=>by
  have e:=yP.mp h;subst e
  cases d' with
  |nil=>rfl
  |cons _ _=>obtain ⟨_,_,e,_⟩:=za.mp h';cases e
 |d::ds,d',v,h,h'=>by
  obtain ⟨x,r,rfl,a,b⟩:=za.mp h
  cases d' with
  |nil=>cases yP.mp h'
  |cons d1 ds1=>
   obtain ⟨x',r',e,a',b'⟩:=za.mp h'
   cases e
   rw [Rep.inj I sm d d1 x a a',Reps.inj I sm ds ds1 r b b']
end
theorem zEC {xs:List V} {us:List Value} {i:Nat} {u:Value} (r:yN xs us) (e:us[i]?=some u):∃ x,xs[i]?=some x/\yn x u:=by
 have hl:i<xs.length:=by rw [r.length];exact (zU7.mp e).1
 obtain ⟨u',e1,q⟩:=r.get (i:=i) (x:=xs[i]) (by simp [hl])
 rw [e] at e1;cases e1
 exact ⟨xs[i],by simp [hl],q⟩
theorem zJl {xs ys:List D} {vs ws:List V} {its its2:List Value} (r1:Reps X.K G xs vs) (q1:yN vs its) (r2:Reps X.K G ys ws) (q2:yN ws its2) {j:Nat} (h1:j<its.toArray.size) (h2:j<its2.toArray.size) :
  ∃ x y v w,xs[j]?=some x/\ys[j]?=some y/\Rep X.K G x v/\Rep X.K G y w/\yn v its.toArray[j]/\yn w its2.toArray[j]:=by
 obtain ⟨v,e1,p1⟩:=zEC (i:=j) (u:=its.toArray[j]) q1 (by simp at h1 ⊢)
 obtain ⟨w,e2,p2⟩:=zEC (i:=j) (u:=its2.toArray[j]) q2 (by simp at h2 ⊢)
 obtain ⟨x,e3,p3⟩:=r1.got e1
 obtain ⟨y,e4,p4⟩:=r2.got e2
 exact ⟨x,y,v,w,e3,e4,p3,p4,p1,p2⟩
theorem zEe (A:Around):A.in1.units=A.units+1:=rfl
theorem zL3 (I:Inv X pins σ H s) (sm:zf G H):∀ (n:Nat) (A:Around) (x y:D) (v w:V) (u1 u2:Value),min (dep x) (dep y)<=n->A.units+n<cLine->zCE X.K G H x v->zCE X.K G H y w->yn v u1->yn w u2 ->
  RcAt A s u1 u2 (eqD x y)/\RcNeAt A s u1 u2 (!eqD x y)/\(Rep X.K G x v->Rep X.K G y w->EqAt A s u1 u2 (eqD x y)):=by
 intro n
 induction n with
 |zero=>?_
 |succ n ih=>?_
 all_goals
  intro A x y v w u1 u2 hd hu rx ry q1 q2
  have hu0:A.units<cLine:=by omega
  cases x with
  |non=>
   rw [rx.non] at q1;cases q1
   cases y with
   |non=>rw [ry.non] at q2;cases q2;exact ⟨RcAt.none_none,RcNeAt.none_none,λ_ _=>EqAt.same _⟩
   |bl b=>rw [ry.bl] at q2;cases q2;exact ⟨RcAt.none_bool b,RcNeAt.none_bool b,λ_ _=>EqAt.none_bool b⟩
   |int b=>rw [ry.int] at q2;obtain ⟨t,rfl⟩:=q2;exact ⟨RcAt.none_int b t,RcNeAt.none_int b t,λ_ _=>EqAt.none_int b t⟩
   |str b=>rw [ry.str] at q2;obtain ⟨t,rfl⟩:=q2;exact ⟨RcAt.none_str b t,RcNeAt.none_str b t,λ_ _=>EqAt.none_str b t⟩
   |tup ys=>obtain ⟨a,vs,rfl,q,r⟩:=ry.tup sm;cases q2;obtain ⟨its,_,p,_⟩:=I.tuple q;exact ⟨RcAt.none_tuple p hu0,RcNeAt.none_tuple p hu0,λ_ _=>EqAt.none_tuple p hu0⟩
   |lst ys=>obtain ⟨a,vs,rfl,q,r⟩:=ry.list sm;cases q2;obtain ⟨its,_,p,_⟩:=I.list q;exact ⟨RcAt.none_list p.isList hu0,RcNeAt.none_list p.isList hu0,λ_ _=>EqAt.none_list p.isList hu0⟩
  |bl c=>
   rw [rx.bl] at q1;cases q1
   cases y with
   |non=>rw [ry.non] at q2;cases q2;exact ⟨RcAt.bool_none c,RcNeAt.bool_none c,λ_ _=>EqAt.bool_none c⟩
   |bl b=>rw [ry.bl] at q2;cases q2;exact ⟨RcAt.bool_bool c b,RcNeAt.bool_bool c b,λ_ _=>EqAt.bool_bool c b⟩
   |int b=>rw [ry.int] at q2;obtain ⟨t,rfl⟩:=q2;exact ⟨RcAt.bool_int c b t,RcNeAt.bool_int c b t,λ_ _=>EqAt.bool_int c b t⟩
   |str b=>rw [ry.str] at q2;obtain ⟨t,rfl⟩:=q2;exact ⟨RcAt.bool_str c b t,RcNeAt.bool_str c b t,λ_ _=>EqAt.bool_str c b t⟩
   |tup ys=>obtain ⟨a,vs,rfl,q,r⟩:=ry.tup sm;cases q2;obtain ⟨its,_,p,_⟩:=I.tuple q;exact ⟨RcAt.bool_tuple c p hu0,RcNeAt.bool_tuple c p hu0,λ_ _=>EqAt.bool_tuple c p hu0⟩
   |lst ys=>obtain ⟨a,vs,rfl,q,r⟩:=ry.list sm;cases q2;obtain ⟨its,_,p,_⟩:=I.list q;exact ⟨RcAt.bool_list c p.isList hu0,RcNeAt.bool_list c p.isList hu0,λ_ _=>EqAt.bool_list c p.isList hu0⟩
  |int c=>
   rw [rx.int] at q1;obtain ⟨t1,rfl⟩:=q1
   cases y with
   |non=>rw [ry.non] at q2;cases q2;exact ⟨RcAt.int_none c t1,RcNeAt.int_none c t1,λ_ _=>EqAt.int_none c t1⟩
   |bl b=>rw [ry.bl] at q2;cases q2;exact ⟨RcAt.int_bool c t1 b,RcNeAt.int_bool c t1 b,λ_ _=>EqAt.int_bool c t1 b⟩
   |int b=>rw [ry.int] at q2;obtain ⟨t,rfl⟩:=q2;exact ⟨RcAt.int_int c t1 b t,RcNeAt.int_int c t1 b t,λ_ _=>EqAt.int_int c t1 b t⟩
   |str b=>rw [ry.str] at q2;obtain ⟨t,rfl⟩:=q2;exact ⟨RcAt.int_str c t1 b t,RcNeAt.int_str c t1 b t,λ_ _=>EqAt.int_str c t1 b t⟩
   |tup ys=>obtain ⟨a,vs,rfl,q,r⟩:=ry.tup sm;cases q2;obtain ⟨its,_,p,_⟩:=I.tuple q;exact ⟨RcAt.int_tuple c t1 p hu0,RcNeAt.int_tuple c t1 p hu0,λ_ _=>EqAt.int_tuple c t1 p hu0⟩
   |lst ys=>obtain ⟨a,vs,rfl,q,r⟩:=ry.list sm;cases q2;obtain ⟨its,_,p,_⟩:=I.list q;exact ⟨RcAt.int_list c t1 p.isList hu0,RcNeAt.int_list c t1 p.isList hu0,λ_ _=>EqAt.int_list c t1 p.isList hu0⟩
  |str c=>
   rw [rx.str] at q1;obtain ⟨t1,rfl⟩:=q1
   cases y with
   |non=>rw [ry.non] at q2;cases q2;exact ⟨RcAt.str_none c t1,RcNeAt.str_none c t1,λ_ _=>EqAt.str_none c t1⟩
   |bl b=>rw [ry.bl] at q2;cases q2;exact ⟨RcAt.str_bool c t1 b,RcNeAt.str_bool c t1 b,λ_ _=>EqAt.str_bool c t1 b⟩
   |int b=>rw [ry.int] at q2;obtain ⟨t,rfl⟩:=q2;exact ⟨RcAt.str_int c t1 b t,RcNeAt.str_int c t1 b t,λ_ _=>EqAt.str_int c t1 b t⟩
   |str b=>rw [ry.str] at q2;obtain ⟨t,rfl⟩:=q2;exact ⟨RcAt.str_str c t1 b t,RcNeAt.str_str c t1 b t,λ_ _=>EqAt.str_str c t1 b t⟩
   |tup ys=>obtain ⟨a,vs,rfl,q,r⟩:=ry.tup sm;cases q2;obtain ⟨its,_,p,_⟩:=I.tuple q;exact ⟨RcAt.str_tuple c t1 p hu0,RcNeAt.str_tuple c t1 p hu0,λ_ _=>EqAt.str_tuple c t1 p hu0⟩
   |lst ys=>obtain ⟨a,vs,rfl,q,r⟩:=ry.list sm;cases q2;obtain ⟨its,_,p,_⟩:=I.list q;exact ⟨RcAt.str_list c t1 p.isList hu0,RcNeAt.str_list c t1 p.isList hu0,λ_ _=>EqAt.str_list c t1 p.isList hu0⟩
  |tup xs=>
   obtain ⟨a1,vs1,rfl,qq1,rr1⟩:=rx.tup sm;cases q1;obtain ⟨its1,vv1,p1,_⟩:=I.tuple qq1
   cases y with
   |non=>rw [ry.non] at q2;cases q2;exact ⟨RcAt.tuple_none p1 hu0,RcNeAt.tuple_none p1 hu0,λ_ _=>EqAt.tuple_none p1 hu0⟩
   |bl b=>rw [ry.bl] at q2;cases q2;exact ⟨RcAt.tuple_bool b p1 hu0,RcNeAt.tuple_bool b p1 hu0,λ_ _=>EqAt.tuple_bool b p1 hu0⟩
   |int b=>rw [ry.int] at q2;obtain ⟨t,rfl⟩:=q2;exact ⟨RcAt.tuple_int b t p1 hu0,RcNeAt.tuple_int b t p1 hu0,λ_ _=>EqAt.tuple_int b t p1 hu0⟩
   |str b=>rw [ry.str] at q2;obtain ⟨t,rfl⟩:=q2;exact ⟨RcAt.tuple_str b t p1 hu0,RcNeAt.tuple_str b t p1 hu0,λ_ _=>EqAt.tuple_str b t p1 hu0⟩
   |lst ys=>obtain ⟨a,vs,rfl,q,r⟩:=ry.list sm;cases q2;obtain ⟨its,_,p,_⟩:=I.list q;exact ⟨RcAt.tuple_list p1 p.isList hu0,RcNeAt.tuple_list p1 p.isList hu0,λ_ _=>EqAt.tuple_list p1 p.isList hu0⟩
   |tup ys=>
    first
    |(exfalso;simp only [dep] at hd;omega)
    |(obtain ⟨a2,vs2,rfl,qq2,rr2⟩:=ry.tup sm;cases q2;obtain ⟨its2,vv2,p2,_⟩:=I.tuple qq2
      have he:∀ j (h1:j<its1.toArray.size) (h2:j<its2.toArray.size),EqAt A.in1 s its1.toArray[j] its2.toArray[j] (eqI xs ys j):=λj h1 h2=>by
       obtain ⟨x,y,v,w,e1,e2,r1,r2,z1,z2⟩:=zJl rr1 vv1 rr2 vv2 h1 h2
       have d1:=zCv e1
       have d2:=zCv e2
       have:=(ih A.in1 x y v w _ _ (by simp only [dep] at hd;omega) (by rw [zEe];omega) (.fr r1) (.fr r2) z1 z2).2.2 r1 r2
       simpa only [eqI,e1,e2] using this
      have el:((List.range (min its1.toArray.size its2.toArray.size)).all (eqI xs ys) && its1.toArray.size == its2.toArray.size)=eqD (.tup xs) (.tup ys):=by
       have l1:=rr1.length;have l2:=rr2.length;have l3:=vv1.length;have l4:=vv2.length
       rw [zU3,zU3,<- l3,<- l4,<- l1,<- l2]
       simp only [eqD];exact zIc xs ys
      have e1:RcAt A s (.ref a1) (.ref a2) (eqD (.tup xs) (.tup ys)):=by rw [<- el];exact RcAt.tuples p1 p2 hu0 he
      have e2:RcNeAt A s (.ref a1) (.ref a2) (!eqD (.tup xs) (.tup ys)):=by rw [<- el];exact RcNeAt.tuples p1 p2 hu0 he
      refine ⟨e1,e2,λh1 h2=>?_⟩
      by_cases z:a1=a2
      ·subst z
       have:=Rep.inj I sm _ _ _ h1 h2
       rw [<- this,zGZ]
       exact EqAt.same _
      ·exact EqAt.of_refs z e1)
  |lst xs=>
   obtain ⟨a1,vs1,rfl,qq1,rr1⟩:=rx.list sm;cases q1;obtain ⟨its1,vv1,p1,_⟩:=I.list qq1
   cases y with
   |non=>rw [ry.non] at q2;cases q2;exact ⟨RcAt.list_none p1.isList hu0,RcNeAt.list_none p1.isList hu0,λ_ _=>EqAt.list_none p1.isList hu0⟩
   |bl b=>rw [ry.bl] at q2;cases q2;exact ⟨RcAt.list_bool b p1.isList hu0,RcNeAt.list_bool b p1.isList hu0,λ_ _=>EqAt.list_bool b p1.isList hu0⟩
   |int b=>rw [ry.int] at q2;obtain ⟨t,rfl⟩:=q2;exact ⟨RcAt.list_int b t p1.isList hu0,RcNeAt.list_int b t p1.isList hu0,λ_ _=>EqAt.list_int b t p1.isList hu0⟩
   |str b=>rw [ry.str] at q2;obtain ⟨t,rfl⟩:=q2;exact ⟨RcAt.list_str b t p1.isList hu0,RcNeAt.list_str b t p1.isList hu0,λ_ _=>EqAt.list_str b t p1.isList hu0⟩
   |tup ys=>obtain ⟨a,vs,rfl,q,r⟩:=ry.tup sm;cases q2;obtain ⟨its,_,p,_⟩:=I.tuple q;exact ⟨RcAt.list_tuple p1.isList p hu0,RcNeAt.list_tuple p1.isList p hu0,λ_ _=>EqAt.list_tuple p1.isList p hu0⟩
   |lst ys=>
    first
    |(exfalso;simp only [dep] at hd;omega)
    |(obtain ⟨a2,vs2,rfl,qq2,rr2⟩:=ry.list sm;cases q2;obtain ⟨its2,vv2,p2,_⟩:=I.list qq2
      have l1:=rr1.length;have l2:=rr2.length;have l3:=vv1.length;have l4:=vv2.length
      have he:∀ j (h1:j<its1.toArray.size) (h2:j<its2.toArray.size),EqAt A.in1 s its1.toArray[j] its2.toArray[j] (eqI xs ys j):=λj h1 h2=>by
       obtain ⟨x,y,v,w,e1,e2,r1,r2,z1,z2⟩:=zJl rr1 vv1 rr2 vv2 h1 h2
       have d1:=zCv e1
       have d2:=zCv e2
       have:=(ih A.in1 x y v w _ _ (by simp only [dep] at hd;omega) (by rw [zEe];omega) (.fr r1) (.fr r2) z1 z2).2.2 r1 r2
       simpa only [eqI,e1,e2] using this
      have e12:RcAt A s (.ref a1) (.ref a2) (eqD (.lst xs) (.lst ys))/\RcNeAt A s (.ref a1) (.ref a2) (!eqD (.lst xs) (.lst ys)):=by
       by_cases hz:its1.length=its2.length
       ·have hsz:its1.toArray.size=its2.toArray.size:=by rw [zU3,zU3];exact hz
        have el:(List.range its1.toArray.size).all (eqI xs ys)=eqD (.lst xs) (.lst ys):=by
         rw [zU3,<- l3,<- l1]
         simp only [eqD];exact zOK xs ys (by omega)
        rw [<- el]
        exact ⟨RcAt.lists p1.isList p2.isList hsz hu0 he,RcNeAt.lists p1.isList p2.isList hsz hu0 he⟩
       ·have hsz:(its1.toArray.size != its2.toArray.size)=true:=by rw [zU3,zU3];simpa using hz
        have el:eqD (.lst xs) (.lst ys)=false:=by simp only [eqD];exact zL2 xs ys (by omega)
        rw [el]
        exact ⟨RcAt.lists_lengths p1.isList p2.isList hsz hu0,RcNeAt.lists_lengths p1.isList p2.isList hsz hu0⟩
      refine ⟨e12.1,e12.2,λh1 h2=>?_⟩
      by_cases z:a1=a2
      ·subst z
       have:=Rep.inj I sm _ _ _ h1 h2
       rw [<- this,zGZ]
       exact EqAt.same _
      ·exact EqAt.of_refs z e12.1)
end
def eqO (x y:D):Option D:=if min (dep x) (dep y)<=20 then some (.bl (eqD x y)) else none
def neO (x y:D):Option D:=if min (dep x) (dep y)<=20 then some (.bl (!eqD x y)) else none
section
variable {X:Cx}
theorem yW (hu:X.A.units+30<cLine):OpR X (compareOp .Eq) (rD X.K eqO):=by
 rintro pins s σ H x y v u Q I rx ry ⟨G,dx,dy,d,sm,r1,r2,e,k⟩
 unfold eqO at e
 split at e
 ·rename_i hd
  cases e
  exact (zL3 I sm 20 X.A dx dy x y v u hd (by omega) r1 r2 rx ry).1 _ _ _ _ (zCP I (k _ G H (zd.refl sm) (yO.mpr rfl)) rfl)
 ·cases e
theorem zJm (hu:X.A.units+30<cLine):OpR X (compareOp .NotEq) (rD X.K neO):=by
 rintro pins s σ H x y v u Q I rx ry ⟨G,dx,dy,d,sm,r1,r2,e,k⟩
 unfold neO at e
 split at e
 ·rename_i hd
  cases e
  exact (zL3 I sm 20 X.A dx dy x y v u hd (by omega) r1 r2 rx ry).2.1 _ _ _ _ (zCP I (k _ G H (zd.refl sm) (yO.mpr rfl)) rfl)
 ·cases e
open Classical in
def hasV (ds:List D) (us:List Value) (dx:D) (u:Value):Bool:=decide (∃ (i:Nat) (d:D),us[i]?=some u/\ds[i]?=some d/\eqD d dx=true)
open Classical in
theorem zId {pins:PNt} {σ:L2.St} {G H:Hp} {s:Shared} (I:Inv X pins σ H s) (sm:zf G H) {ds:List D} {vs:List V} {us:List Value} (r:Reps X.K G ds vs) (q:yN vs us) (dx:D) {i:Nat} {u:Value} {d:D} (h:us[i]?=some u) (hd:ds[i]?=some d):hasV ds us dx u=eqD d dx:=by
 unfold hasV
 cases e:eqD d dx with
 |true=>exact zVz ⟨i,d,h,hd,e⟩
 |false=>
  refine zVh ?_
  rintro ⟨j,d',h',hd',e'⟩
  obtain ⟨v1,e1,r1⟩:=r.get hd
  obtain ⟨v2,e2,r2⟩:=r.get hd'
  obtain ⟨u1,e3,q1⟩:=q.get e1
  obtain ⟨u2,e4,q2⟩:=q.get e2
  rw [h] at e3;cases e3
  rw [h'] at e4;cases e4
  have:=q1.inj q2
  subst this
  have:=Rep.inj I sm _ _ _ r1 r2
  subst this
  rw [e] at e';cases e'
theorem zED {pins:PNt} {σ:L2.St} {G H:Hp} {s:Shared} (I:Inv X pins σ H s) (sm:zf G H) {ds:List D} {vs:List V} {us:List Value} (r:Reps X.K G ds vs) (q:yN vs us) (dx:D):us.toArray.any (hasV ds us dx)=ds.any λd=>eqD d dx:=by
 rw [zXM]
 simp only [List.any_toArray,zXG]
 constructor
 ·rintro ⟨u,hu,h⟩
  obtain ⟨i,hi,rfl⟩:=zWT.mp hu
  obtain ⟨v,e1,p1⟩:=zEC (i:=i) (u:=us[i]) q (by simp [hi])
  obtain ⟨d,e2,p2⟩:=r.got e1
  rw [zId I sm r q dx (i:=i) (u:=us[i]) (by simp [hi]) e2] at h
  exact ⟨d,zVF e2,h⟩
 ·rintro ⟨d,hd,h⟩
  obtain ⟨i,hi,rfl⟩:=zWT.mp hd
  obtain ⟨v,e1,p1⟩:=r.get (i:=i) (d:=ds[i]) (by simp [hi])
  obtain ⟨u,e2,p2⟩:=q.get e1
  refine ⟨u,zVF e2,?_⟩
  rw [zId I sm r q dx (i:=i) (d:=ds[i]) e2 (by simp [hi])]
  exact h
def inO (x y:D):Option D:=if dep x<=20 then match y with
  |.tup ys=>some (.bl (ys.any λd=>eqD d x))
  |.lst ys=>some (.bl (ys.any λd=>eqD d x))
  |_=>none
 else none
def zRL (x y:D):Option D:=if dep x<=20 then match y with
  |.tup ys=>some (.bl (!ys.any λd=>eqD d x))
  |.lst ys=>some (.bl (!ys.any λd=>eqD d x))
  |_=>none
 else none
def rIN (K:Fg) (op:D->D->Option D):R2:=λx y H Q=>∃ G dx dy d,zf G H/\Rep K G dx x/\zCE K G H dy y/\op dx dy=some d/\∀ v G' H',zd G H G' H'->Rep K G' d v->Q v H'
theorem zEE {pins:PNt} {σ:L2.St} {G H:Hp} {s:Shared} (I:Inv X pins σ H s) (sm:zf G H) (hu:X.A.units+30<cLine) {ds:List D} {vs:List V} {us:List Value} (r:Reps X.K G ds vs) (q:yN vs us) {dx:D} {x:V} {u:Value}
  (rx:Rep X.K G dx x) (qx:yn x u) (hd:dep dx<=20):∀ y,y∈us.toArray->EqAt X.A.in1 s y u (hasV ds us dx y):=λy hy=>by
 obtain ⟨i,hi,rfl⟩:=zWT.mp (by simpa using hy)
 obtain ⟨v,e1,p1⟩:=zEC (i:=i) (u:=us[i]) q (by simp [hi])
 obtain ⟨d,e2,p2⟩:=r.got e1
 rw [zId I sm r q dx (i:=i) (u:=us[i]) (by simp [hi]) e2]
 exact (zL3 I sm 20 X.A.in1 d dx v x us[i] u (by omega) (by rw [zEe];omega) (.fr p2) (.fr rx) p1 qx).2.2 p2 rx
theorem zP6 (hu:X.A.units+30<cLine):OpR X (compareOp .In) (rIN X.K inO):=by
 rintro pins s σ H x y v u Q I rx ry ⟨G,dx,dy,d,sm,r1,r2,e,k⟩
 unfold inO at e
 split at e
 ·rename_i hd
  cases dy with
  |tup ys=>
   cases e
   obtain ⟨a,vs,rfl,q,r⟩:=r2.tup sm
   cases ry
   obtain ⟨its,vv,p,_⟩:=I.tuple q
   refine in_tupleAt _ p (zEE I sm hu r vv r1 rx hd) ?_
   rw [zED I sm r vv]
   exact (zCP I (k _ G H (zd.refl sm) (yO.mpr rfl)) rfl)
  |lst ys=>
   cases e
   obtain ⟨a,vs,rfl,q,r⟩:=r2.list sm
   cases ry
   obtain ⟨its,vv,p,_⟩:=I.list q
   refine in_listAt _ p.isList (zEE I sm hu r vv r1 rx hd) ?_
   rw [zED I sm r vv]
   exact (zCP I (k _ G H (zd.refl sm) (yO.mpr rfl)) rfl)
  |_=>cases e
 ·cases e
theorem zRM (hu:X.A.units+30<cLine):OpR X (compareOp .NotIn) (rIN X.K zRL):=by
 rintro pins s σ H x y v u Q I rx ry ⟨G,dx,dy,d,sm,r1,r2,e,k⟩
 unfold zRL at e
 split at e
 ·rename_i hd
  cases dy with
  |tup ys=>
   cases e
   obtain ⟨a,vs,rfl,q,r⟩:=r2.tup sm
   cases ry
   obtain ⟨its,vv,p,_⟩:=I.tuple q
   refine notIn_tupleAt _ p (zEE I sm hu r vv r1 rx hd) ?_
   rw [zED I sm r vv]
   exact (zCP I (k _ G H (zd.refl sm) (yO.mpr rfl)) rfl)
  |lst ys=>
   cases e
   obtain ⟨a,vs,rfl,q,r⟩:=r2.list sm
   cases ry
   obtain ⟨its,vv,p,_⟩:=I.list q
   refine notIn_listAt _ p.isList (zEE I sm hu r vv r1 rx hd) ?_
   rw [zED I sm r vv]
   exact (zCP I (k _ G H (zd.refl sm) (yO.mpr rfl)) rfl)
  |_=>cases e
 ·cases e
variable {a b:Expr} {f g:ROd} {pos:Pos}
theorem zL4 {K:Fg} {op:D->D->Option D} {σ:L2.St} {H:Hp} {Q:VK} (h:tE K (b2 f g op) σ H Q):tOp (rIN K op) (tE K f) (tR K g) σ H Q:=by
 obtain ⟨G,ρ,d,s,er,ef,k⟩:=h
 obtain ⟨x,e1,ef⟩:=zUs.mp ef
 obtain ⟨y,e2,ef⟩:=zUs.mp ef
 refine ⟨G,ρ,x,s,er,e1,λv1 G1 H1 t1 r1=>⟨G1,ρ,y,t1.s,er.step t1,e2,λv2 G2 H2 t2 r2=>?_⟩⟩
 exact ⟨G2,x,y,d,t2.s,Rep.mono t2.g _ _ r1,r2,ef,λv G' H' t r=>k v G' H' ((t1.trans t2).trans t) r⟩
theorem zTh (hu:X.A.units+30<cLine) (ha:SE X a f) (hb:SR X b g) (hm:behindInMarks .In b=false):SE X (.Compare a [.In] [b] pos) (b2 f g inO):=zAy (zLY (zP6 hu) ha hb hm) λ_ _ _ h=>zL4 h
theorem sb_in (hu:X.A.units+30<cLine) (ha:SE X a f) (hb:SR X b g) (hm:behindInMarks .In b=false):SB X (.Compare a [.In] [b] pos) (bB (b2 f g inO)):=
 zHX (zGO (zP6 hu) ha hb hm) λσ H Q=>by
  rintro ⟨G,ρ,d,s,er,ef,k⟩
  obtain ⟨x,e1,e2⟩:=zUs.mp ef
  have e3:=zFl e2
  subst e3
  exact zL4 ⟨G,ρ,_,s,er,e1,λv G' H' t r=>⟨d,yO.mp r,k G' H' t⟩⟩
theorem zP7 (hu:X.A.units+30<cLine) (ha:SE X a f) (hb:SR X b g) (hm:behindInMarks .NotIn b=false):SB X (.Compare a [.NotIn] [b] pos) (bB (b2 f g zRL)):=
 zHX (zGO (zRM hu) ha hb hm) λσ H Q=>by
  rintro ⟨G,ρ,d,s,er,ef,k⟩
  obtain ⟨x,e1,e2⟩:=zUs.mp ef
  have e3:=zFl e2
  subst e3
  exact zL4 ⟨G,ρ,_,s,er,e1,λv G' H' t r=>⟨d,yO.mp r,k G' H' t⟩⟩
def ltO:D->D->Option D
 |.int i,.int j=>some (.bl (decide (i<j)))
 |.str i,.str j=>some (.bl (decide (i.cps.toList<j.cps.toList)))
 |_,_=>none
def gtO:D->D->Option D
 |.int i,.int j=>some (.bl (decide (j<i)))
 |_,_=>none
theorem zP8:OpR X (compareOp .Lt) (rD X.K ltO):=by
 rintro pins s σ H x y v u Q I rx ry ⟨G,dx,dy,d,sm,r1,r2,e,k⟩
 cases dx with
 |int i=>cases dy with
  |int j=>cases e;rw [r1.int] at rx;rw [r2.int] at ry;obtain ⟨t,rfl⟩:=rx;obtain ⟨t',rfl⟩:=ry;exact lt_int (zCP I (k _ G H (zd.refl sm) (yO.mpr rfl)) rfl)
  |_=>cases e
 |str i=>cases dy with
  |str j=>cases e;rw [r1.str] at rx;rw [r2.str] at ry;obtain ⟨t,rfl⟩:=rx;obtain ⟨t',rfl⟩:=ry;exact lt_str (zCP I (k _ G H (zd.refl sm) (yO.mpr rfl)) rfl)
  |_=>cases e
 |_=>cases e
theorem zFo:OpR X (compareOp .Gt) (rD X.K gtO):=by
 rintro pins s σ H x y v u Q I rx ry ⟨G,dx,dy,d,sm,r1,r2,e,k⟩
 cases dx with
 |int i=>cases dy with
  |int j=>cases e;rw [r1.int] at rx;rw [r2.int] at ry;obtain ⟨t,rfl⟩:=rx;obtain ⟨t',rfl⟩:=ry;exact gt_int (zCP I (k _ G H (zd.refl sm) (yO.mpr rfl)) rfl)
  |_=>cases e
 |_=>cases e
end
end RD
namespace RD
open PySem PySem.Spec PyProof.Rows L2 SeqAt
section
variable {X:Cx} {a b:Expr} {f g:ROd} {fl:ROl} {pos:Pos}
theorem zIe {n:Nat} (h:n<=1000000):n<=sizeLine:=zVb h (by decide)
def qN:D->D->Option D
 |.int i,.int j=>some (.int (i+j))
 |.str i,.str j=>if i.length+j.length<=1000000 then some (.str (i++j)) else none
 |.tup xs,.tup ys=>if xs.length+ys.length<=1000000 then some (.tup (xs++ys)) else none
 |_,_=>none
def zKk:D->D->Option D
 |.int i,.int j=>some (.int (i-j))
 |_,_=>none
def zNt:D->D->Option D
 |.int i,.int j=>if (-(2 ^ 64)<i/\i<2 ^ 64)\/(-(2 ^ 64)<j/\j<2 ^ 64) then some (.int (i*j)) else none
 |_,_=>none
def zHb:D->D->Option D
 |.int i,.int j=>if 0<j then some (.int (i%j)) else none
 |_,_=>none
def zOL:D->D->Option D
 |.int i,.int j=>if 0<j/\j<1073741824 then some (.int (i/j)) else none
 |_,_=>none
theorem zRN {prog:Program} {w:World} {A:Around} {E:VSt} {s:Shared} {t b:Addr} {ws:List Value} {Q:VSt} (ht:IsTup s.heap t ([]:List Value).toArray) (hb:IsTup s.heap b ws.toArray) (h1:Q (.ref b) s) :
  wpAny (model prog w) A (binaryOp .Add (.ref t) (.ref b)) Q E s:=by
 obtain ⟨⟨cls,dd,data,sl⟩,ho,hc,n,hd⟩:=id ht
 obtain ⟨⟨cls2,dd2,data2,sl2⟩,ho2,hc2,n2,hd2⟩:=id hb
 simp only at hc hd hc2 hd2
 subst hc hd hc2 hd2
 exact concat_meets ⟨_,ho,rfl⟩ ⟨_,ho2,rfl⟩ noFill_tuple_add seq_tuple_add zW1 zWx (zWs _ _)
   (tuple_addW0 t b _ ws.toArray n n2 dd dd2 sl sl2 rfl) ⟨ho,ho2,h1⟩
theorem zW:OpR X (binaryOp .Add) (rD X.K qN):=by
 rintro pins s σ H x y v u Q I rx ry ⟨G,dx,dy,d,sm,r1,r2,e,k⟩
 cases dx with
 |int i=>cases dy with
  |int j=>cases e;rw [r1.int] at rx;rw [r2.int] at ry;obtain ⟨t,rfl⟩:=rx;obtain ⟨t',rfl⟩:=ry;exact add_int ⟨.int (i+j),H,I.tok _,⟨_,rfl⟩,k _ G H (zd.refl sm) (yE.mpr rfl)⟩
  |_=>cases e
 |str i=>cases dy with
  |str j=>
   simp only [qN] at e
   split at e
   ·rename_i hz
    cases e;rw [r1.str] at rx;rw [r2.str] at ry
    exact zKb pins s σ H _ _ v u Q I rx ry ⟨i,j,rfl,rfl,zIe hz,k _ G H (zd.refl sm) (zAK.mpr rfl)⟩
   ·cases e
  |_=>cases e
 |tup xs=>cases dy with
  |tup ys=>
   simp only [qN] at e
   split at e
   ·rename_i hz
    cases e
    obtain ⟨a1,vs1,rfl,q1,w1⟩:=r1.tup sm
    obtain ⟨a2,vs2,rfl,q2,w2⟩:=r2.tup sm
    have l1:=w1.length
    have l2:=w2.length
    cases vs1 with
    |nil=>
     cases rx;cases ry
     obtain ⟨its,vv,p1,_⟩:=I.tuple q1
     obtain ⟨its2,vv2,p2,_⟩:=I.tuple q2
     cases vv
     have hx:xs = []:=zWw.mp l1
     subst hx
     refine zRN p1 p2 ⟨.ref a2,H,I,rfl,k _ G H (zd.refl sm) ?_⟩
     simpa using r2.rep (λ_ z=>by cases z)
    |cons v1 vs1=>
     refine zQ4 pins s σ H _ _ v u Q I rx ry ⟨a1,a2,_,vs2,rfl,rfl,q1,q2,by simp,zIe (by omega),λz=>?_,λ_ p hp=>?_⟩
     ·subst z
      have hy:ys = []:=zWw.mp l2
      subst hy
      refine k _ G H (zd.refl sm) ?_
      simpa using r1.rep (λ_ z=>by cases z)
     ·exact k _ _ _ (zd.new sm hp) (zBI.mpr ⟨p,_,rfl,zN,Reps.mono (yh (sm.free hp)) _ _ (w1.append w2)⟩)
   ·cases e
  |_=>cases e
 |_=>cases e
theorem zAM:OpR X (binaryOp .Sub) (rD X.K zKk):=by
 rintro pins s σ H x y v u Q I rx ry ⟨G,dx,dy,d,sm,r1,r2,e,k⟩
 cases dx with
 |int i=>cases dy with
  |int j=>cases e;exact zTC pins s σ H x y v u Q I rx ry ⟨i,j,r1.int,r2.int,k _ G H (zd.refl sm) (yE.mpr rfl)⟩
  |_=>cases e
 |_=>cases e
theorem zCg:OpR X (binaryOp .Mult) (rD X.K zNt):=by
 rintro pins s σ H x y v u Q I rx ry ⟨G,dx,dy,d,sm,r1,r2,e,k⟩
 cases dx with
 |int i=>cases dy with
  |int j=>
   simp only [zNt] at e
   split at e
   ·rename_i hz;cases e;exact zTD pins s σ H x y v u Q I rx ry ⟨i,j,r1.int,r2.int,hz,k _ G H (zd.refl sm) (yE.mpr rfl)⟩
   ·cases e
  |_=>cases e
 |_=>cases e
theorem qt:OpR X (binaryOp .Mod) (rD X.K zHb):=by
 rintro pins s σ H x y v u Q I rx ry ⟨G,dx,dy,d,sm,r1,r2,e,k⟩
 cases dx with
 |int i=>cases dy with
  |int j=>
   simp only [zHb] at e
   split at e
   ·rename_i hz;cases e;exact zTE pins s σ H x y v u Q I rx ry ⟨i,j,r1.int,r2.int,hz,k _ G H (zd.refl sm) (yE.mpr rfl)⟩
   ·cases e
  |_=>cases e
 |_=>cases e
theorem zOM:OpR X (binaryOp .FloorDiv) (rD X.K zOL):=by
 rintro pins s σ H x y v u Q I rx ry ⟨G,dx,dy,d,sm,r1,r2,e,k⟩
 cases dx with
 |int i=>cases dy with
  |int j=>
   simp only [zOL] at e
   split at e
   ·rename_i hz;cases e;exact zQr pins s σ H x y v u Q I rx ry ⟨i,j,r1.int,r2.int,hz,k _ G H (zd.refl sm) (yE.mpr rfl)⟩
   ·cases e
  |_=>cases e
 |_=>cases e
def zP9:D->Option D
 |.int i=>some (.int (-i))
 |_=>none
theorem zHc (ha:SR X a f):SE X (.UnaryOp .USub a pos) (b1 f zP9):=zAy (pe_un (r:=λx H Q=>∃ i,x = .int i/\Q (.int (-i)) H) zTF ha) λσ H Q=>by
 rintro ⟨G,ρ,d,s,er,ef,k⟩
 obtain ⟨d1,e1,ef⟩:=zUs.mp ef
 cases d1 with
 |int i=>cases ef;exact ⟨G,ρ,_,s,er,e1,λv1 G1 H1 t1 r1=>⟨i,r1.int,k _ G1 H1 t1 (yE.mpr rfl)⟩⟩
 |_=>cases ef
def zt (x y:D):Option (List D):=match x,y with
 |.lst xs,.lst ys=>if xs.length+ys.length<=1000000 then some (xs++ys) else none
 |_,_=>none
noncomputable def b2F (f g:ROd) (op:D->D->Option (List D)):ROl:=λρ=>(f ρ).bind λx=>(g ρ).bind λy=>op x y
def rF (K:Fg) (op:D->D->Option (List D)):R2:=λx y H Q=>∃ G dx dy xs,zf G H/\zCE K G H dx x/\zCE K G H dy y/\op dx dy=some xs/\∀ a vs G' H',zd G H G' H'->H a=none->G' a=none->H' a=some (.lst vs)->Reps K G' xs vs->Q (.ref a) H'
theorem zTi {K:Fg} {op:D->D->Option (List D)} {σ:L2.St} {H:Hp} {Q:VK} (h:tF K (b2F f g op) σ H Q):tOp (rF K op) (tR K f) (tR K g) σ H Q:=by
 obtain ⟨G,ρ,d,s,er,ef,k⟩:=h
 obtain ⟨x,e1,ef⟩:=zUs.mp ef
 obtain ⟨y,e2,ef⟩:=zUs.mp ef
 refine ⟨G,ρ,x,s,er,e1,λv1 G1 H1 t1 r1=>⟨G1,ρ,y,t1.s,er.step t1,e2,λv2 G2 H2 t2 r2=>?_⟩⟩
 exact ⟨G2,x,y,d,t2.s,r1.step t2,r2,ef,λa vs G' H' t h1 h2 h3 r=>k a vs G' H' ((t1.trans t2).trans t) ((t1.trans t2).h.free h1) h2 h3 r⟩
theorem zRO:OpR X (binaryOp .Add) (rF X.K zt):=by
 rintro pins s σ H x y v u Q I rx ry ⟨G,dx,dy,d,sm,r1,r2,e,k⟩
 cases dx with
 |lst xs=>cases dy with
  |lst ys=>
   simp only [zt] at e
   split at e
   ·rename_i hz
    cases e
    obtain ⟨a1,vs1,rfl,q1,w1⟩:=r1.list sm
    obtain ⟨a2,vs2,rfl,q2,w2⟩:=r2.list sm
    have l1:=w1.length
    have l2:=w2.length
    cases rx;cases ry
    obtain ⟨its,vv,⟨o1,n1,p1,c1,d1,e1⟩,_⟩:=I.list q1
    obtain ⟨its2,vv2,⟨o2,n2,p2,c2,d2,e2⟩,_⟩:=I.list q2
    have l3:=vv.length
    have l4:=vv2.length
    obtain ⟨cls,dd,data,sl⟩:=o1
    obtain ⟨cls2,dd2,data2,sl2⟩:=o2
    simp only at c1 d1 e1 c2 d2 e2
    subst c1 d1 e1 c2 d2 e2
    refine concat_meets ⟨_,p1,rfl⟩ ⟨_,p2,rfl⟩ noFill_list_add seq_list_add PySem.F.slot_list_add PySem.F.entry_list_add (PySem.F.args_list_add_2 _ _)
     (list_addW a1 a2 its.toArray its2.toArray n1 n2 none none sl sl2 (by rw [zU3,zU3];exact zIe (by omega))) ⟨p1,p2,?_⟩
    have ea:its.toArray++its2.toArray=(its++its2).toArray:=by simp
    rw [ea]
    refine ⟨.ref _,_,I.lnew (t':=s.toks) (vv.append vv2) (by rw [zU9];exact zIe (by omega)),rfl,?_⟩
    exact k _ (vs1++vs2) G _ (zd.newH sm I.fresh) I.fresh (sm.free I.fresh) zN (w1.append w2)
   ·cases e
  |_=>cases e
 |_=>cases e
theorem zHd (ha:SR X a f) (hb:SR X b g):SF X (.BinOp a .Add b pos) (b2F f g zt):=zAy (zTB zRO ha hb) λ_ _ _ h=>zTi h
def ixO:D->D->Option D
 |.lst xs,.int i=>atI xs i
 |.tup xs,.int i=>atI xs i
 |.str z,.int i=>if z.length<=1000000 then (atI z.cps.toList i).map λc=>.str ⟨#[c]⟩ else none
 |_,_=>none
theorem zL5 {K:Fg} {G:Hp} {xs:List D} {vs:List V} {i:Int} {d:D} (r:Reps K G xs vs) (h:atI xs i=some d):∃ v,atI vs i=some v/\Rep K G d v:=by
 unfold atI at h ⊢
 rw [<- r.length]
 obtain ⟨j,e1,e2⟩:=zUs.mp h
 rw [e1]
 exact r.get e2
theorem ix_D:IxR X (rD X.K ixO):=by
 rintro value slice pins s σ H x y v u Q I rx ry ⟨G,dx,dy,d,sm,r1,r2,e,k⟩ hs
 cases dy with
 |int i=>
  have hy:=r2.int
  subst hy
  cases dx with
  |lst xs=>
   obtain ⟨a1,vs1,rfl,q1,w1⟩:=r1.list sm
   obtain ⟨v',e1,e2⟩:=zL5 w1 e
   exact zLi value slice pins s σ H _ _ v u Q I rx ry (.inl ⟨a1,vs1,i,v',rfl,rfl,q1,e1,k _ G H (zd.refl sm) e2⟩) hs
  |tup xs=>
   obtain ⟨a1,vs1,rfl,q1,w1⟩:=r1.tup sm
   obtain ⟨v',e1,e2⟩:=zL5 w1 e
   exact zLi value slice pins s σ H _ _ v u Q I rx ry (.inr (.inl ⟨a1,vs1,i,v',rfl,rfl,q1,e1,k _ G H (zd.refl sm) e2⟩)) hs
  |str z=>
   have hx:=r1.str
   subst hx
   simp only [ixO] at e
   split at e
   ·rename_i hz
    obtain ⟨c,e1,rfl⟩:=zUt.mp e
    exact zLi value slice pins s σ H _ _ v u Q I rx ry (.inr (.inr ⟨z,i,c,rfl,rfl,zIe hz,e1,k _ G H (zd.refl sm) (zAK.mpr rfl)⟩)) hs
   ·cases e
  |_=>cases e
 |_=>cases dx<;>cases e
theorem zX (ha:SR X a f) (hb:SR X b g) (hs:zLh b:=by intro _ _;rfl):SE X (.Subscript a b pos) (b2 f g ixO):=zAy (pe_ix ix_D ha hb hs) λ_ _ _ h=>zOF h
abbrev zo (xs:List D) (lo hi:Option Int):List D:=(xs.drop (HT.sIx xs.length 0 lo)).take (HT.sIx xs.length xs.length hi-HT.sIx xs.length 0 lo)
theorem zL6 {K:Fg} {G:Hp} {xs:List D} {vs:List V} (lo hi:Option Int) (r:Reps K G xs vs):Reps K G (zo xs lo hi) (zPw vs lo hi):=by
 unfold zo zPw
 rw [r.length]
 exact (r.drop _).take _
def tOs (K:Fg) (f:Rho->Option (Option Int)):TO:=λσ H Q=>∃ G ρ d,zf G H/\Er K G H ρ σ/\f ρ=some d/\∀ G' H',zd G H G' H'->Q d H'
abbrev SO (X:Cx) (e:Option Expr) (f:Rho->Option (Option Int)):Prop:=PO X e (tOs X.K f)
theorem zTj {X:Cx} {e:Option Expr} {t t':TO} (h:PO X e t) (w:∀ σ H Q,t' σ H Q->t σ H Q):PO X e t':=λpins s σ H Q I q=>h pins s σ H Q I (w σ H Q q)
def asI:D->Option Int
 |.int i=>some i
 |_=>none
def oI (f:ROd):Rho->Option (Option Int):=λρ=>(f ρ).bind λd=>(asI d).map some
theorem qu:SO X none (λ_=>some none):=zTj zQ2 λσ H Q=>by rintro ⟨G,ρ,d,s,er,ef,k⟩;cases ef;exact k G H (zd.refl s)
theorem qO (h:SE X a f):SO X (some a) (oI f):=zTj (zQ3 h) λσ H Q=>by
 rintro ⟨G,ρ,d,s,er,ef,k⟩
 obtain ⟨x,e1,ef⟩:=zUs.mp ef
 obtain ⟨i,e2,rfl⟩:=zUt.mp ef
 cases x with
 |int j=>cases e2;exact ⟨G,ρ,_,s,er,e1,λv1 G1 H1 t1 r1=>⟨i,yE.mp r1,k G1 H1 t1⟩⟩
 |_=>cases e2
variable {lo hi:Option Expr} {ol oh:Rho->Option (Option Int)} {p2:Pos}
def slD (x:D) (lo hi:Option Int):Option D:=match x with
 |.tup xs=>some (.tup (zo xs lo hi))
 |.str z=>if z.length<=1000000 then some (.str (Txt.slice z lo hi)) else none
 |_=>none
def slF (x:D) (lo hi:Option Int):Option (List D):=match x with
 |.lst xs=>some (zo xs lo hi)
 |_=>none
noncomputable def b3S {α:Type} (f:ROd) (ol oh:Rho->Option (Option Int)) (op:D->Option Int->Option Int->Option α):Rho->Option α:=λρ=>(f ρ).bind λx=>(ol ρ).bind λl=>(oh ρ).bind λh=>op x l h
theorem zCh {prog:Program} {w:World} {A:Around} {E:VSt} {s:Shared} {t sl:Addr} {items:Array Value} {vl vu:Value} {lo hi:Option Int} {Q:VSt} (ht:IsTup s.heap t items) (hs:s.heap.IsSliceOf sl vl vu .none) (pl:IsPart vl lo) (pu:IsPart vu hi)
  (hw:HT.sIx items.size 0 lo=0/\HT.sIx items.size items.size hi=items.size) (h:Q (.ref t) s):wpAny (model prog w) A (getItem (.ref t) (.ref sl)) Q E s:=by
 obtain ⟨os,hos,hcs,hds⟩:=id hs
 have hTs:s.TypeIs (.ref sl) "slice":=⟨os,hos,hcs⟩
 unfold getItem
 try with_reducible refine zWQ ?_
 first|refine zUz (zU6 ?_)|skip
 refine zUz (wpAny_sequenceKey ht.typeIs (by decide) ?_)
 refine zUz (wpAny_callSpecial?_slot (name:=Str.ofString "__getitem__") ht.typeIs zWC
  (wpAny_call_entry zWC ht.typeIs entry_tuple_getitem ?_ (args_tuple_getitem _ _)))
 show wpAny _ _ (Builtin.Tuple.tupleItemsOf (.ref t) >>= _) _ _ s
 refine zUz (tupleItemsOf_ ht ?_)
 refine zUz (zWu hTs ?_)
 rw [zVE (by decide)]
 refine zUz (HT.zBc hs pl pu ?_)
 have hyes:(((HT.sIx items.size 0 lo:Nat):Int) == 0 && (1:Int) == 1 && (HT.sIx items.size items.size hi-HT.sIx items.size 0 lo) == items.size)=true:=by
  rw [hw.1,hw.2];simp
 show wpAny _ _ (if (((HT.sIx items.size 0 lo:Nat):Int) == 0 && (1:Int) == 1 && (HT.sIx items.size items.size hi-HT.sIx items.size 0 lo) == items.size)=true then _ else _) _ _ s
 rw [zVE hyes]
 unfold Builtin.Tuple.tupleIsExact
 first
  |exact zUz (zUz (zWu ht.typeIs (zU6 (by rw [zVE (by decide)];exact zUz (wpAny_rule (zU6 ⟨_,rfl,zU6 h⟩))))))
  |exact zUz (zUz (zWu ht.typeIs (zU6 (by rw [zVE (by decide)];exact zUz (wpAny_rule (zUz (zU6 (zU6 ⟨_,rfl,zU6 h⟩))))))))
  |exact zUz (zUz (zUz (zWu ht.typeIs (zU6 (by rw [zVE (by decide)];exact zUz (wpAny_rule (zU6 (zU6 ⟨_,rfl,zU6 h⟩))))))))
def rSD (K:Fg):V->Option Int->Option Int->Hp->VK->Prop:=λx lo hi H Q=>∃ G dx d,zf G H/\zCE K G H dx x/\slD dx lo hi=some d/\∀ v G' H',zd G H G' H'->Rep K G' d v->Q v H'
theorem part_of {v:Value} {o:Option Int} (p:IsPart v o):∃ l:Option (Int×Tok),v=partValue l/\l.map (·.1)=o:=by
 cases p with
 |none=>exact ⟨none,rfl,rfl⟩
 |int i t=>exact ⟨some (i,t),rfl,rfl⟩
theorem sl_D:SlR X (rSD X.K):=by
 rintro pins s σ H x v vl vu lo hi sl Q I rx hs pl pu ⟨G,dx,d,sm,r1,e,k⟩
 cases dx with
 |tup xs=>
  cases e
  obtain ⟨a1,vs1,rfl,q1,w1⟩:=r1.tup sm
  by_cases hw:HT.sIx vs1.length 0 lo=0/\HT.sIx vs1.length vs1.length hi=vs1.length
  ·cases rx
   obtain ⟨its,vv,ht,hz⟩:=I.tuple q1
   have hlen:its.toArray.size=vs1.length:=by rw [zU3];exact vv.length.symm
   refine ⟨"tuple",_,PyProof.Rows.slot_tuple_getitem.lookup,ht.typeIs,zCh ht hs pl pu (by rw [hlen];exact hw) ⟨.ref a1,H,I,rfl,k _ G H (zd.refl sm) ?_⟩⟩
   have e1:zo xs lo hi=xs:=by
    unfold zo
    rw [w1.length,hw.1,hw.2,List.drop_zero,Nat.sub_zero,<- w1.length,zXJ]
   rw [e1]
   exact r1.rep λ_ z=>by cases z
  ·exact zTM pins s σ H _ v vl vu lo hi sl Q I rx hs pl pu ⟨a1,vs1,rfl,q1,hw,λp hp=>k _ _ _ (zd.new sm hp) (zBI.mpr ⟨p,_,rfl,zN,Reps.mono (yh (sm.free hp)) _ _ (zL6 lo hi w1)⟩)⟩
 |str z=>
  simp only [slD] at e
  split at e
  ·rename_i hz
   cases e
   rw [r1.str] at rx
   obtain ⟨t,rfl⟩:=rx
   obtain ⟨l,rfl,el⟩:=part_of pl
   obtain ⟨u,rfl,eu⟩:=part_of pu
   refine ⟨"str",_,F.slot_str_getitem.lookup,typeIs_str _ _ _,wpAny_getItem_str_slice (l:=l) (u:=u) (st:=none) hs rfl ?_⟩
   subst el eu
   refine post_val_or_str ⟨zVb (Txt.slice_le z _ _) (zIe hz),λt' k'=>⟨.str _,H,I.tok _,⟨_,rfl⟩,k _ G H (zd.refl sm) (zAK.mpr rfl)⟩⟩
  ·cases e
 |_=>cases e
theorem qC (ha:SR X a f) (hl:SO X lo ol) (hh:SO X hi oh):SE X (.Subscript a (.Slice lo hi none p2) pos) (b3S f ol oh slD):=zAy (zJb sl_D ha hl hh) λσ H Q=>by
 rintro ⟨G,ρ,d,s,er,ef,k⟩
 obtain ⟨x,e1,ef⟩:=zUs.mp ef
 obtain ⟨l,e2,ef⟩:=zUs.mp ef
 obtain ⟨h,e3,ef⟩:=zUs.mp ef
 exact ⟨G,ρ,x,s,er,e1,λv1 G1 H1 t1 r1=>⟨G1,ρ,l,t1.s,er.step t1,e2,λG2 H2 t2=>⟨G2,ρ,h,t2.s,er.step (t1.trans t2),e3,λG3 H3 t3=>⟨G3,x,d,t3.s,r1.step (t2.trans t3),ef,λv G' H' t r=>k v G' H' (((t1.trans t2).trans t3).trans t) r⟩⟩⟩⟩
theorem zON (ha:SR X a f) (hl:SO X lo ol) (hh:SO X hi oh):SF X (.Subscript a (.Slice lo hi none p2) pos) (b3S f ol oh slF):=zAy (zJb zQ6 ha hl hh) λσ H Q=>by
 rintro ⟨G,ρ,d,s,er,ef,k⟩
 obtain ⟨x,e1,ef⟩:=zUs.mp ef
 obtain ⟨l,e2,ef⟩:=zUs.mp ef
 obtain ⟨h,e3,ef⟩:=zUs.mp ef
 cases x with
 |lst xs=>
  cases ef
  refine ⟨G,ρ,_,s,er,e1,λv1 G1 H1 t1 r1=>⟨G1,ρ,l,t1.s,er.step t1,e2,λG2 H2 t2=>⟨G2,ρ,h,t2.s,er.step (t1.trans t2),e3,λG3 H3 t3=>?_⟩⟩⟩
  have tt:=(t1.trans t2).trans t3
  obtain ⟨a1,vs1,rfl,q1,w1⟩:=(r1.step (t2.trans t3)).list t3.s
  exact ⟨a1,vs1,rfl,q1,λp hp=>k p _ G3 _ (tt.trans (zd.newH t3.s hp)) (tt.h.free hp) (t3.s.free hp) zN (zL6 l h w1)⟩
 |_=>cases ef
def zEF:D->Option D
 |.tup xs=>some (.int xs.length)
 |.lst xs=>some (.int xs.length)
 |.str z=>if z.length<=1000000 then some (.int z.length) else none
 |_=>none
theorem zy:zAl X (.builtin "len") (cR X.K zEF):=by
 intro pins s σ H xs us Q I r h
 obtain ⟨G,d1,d,x,rfl,sm,r1,e,k⟩:=h
 cases d1 with
 |tup ys=>
  cases e
  obtain ⟨a,vs,rfl,q,w⟩:=r1.tup sm
  refine zDx pins s σ H _ us Q I r ⟨a,vs,rfl,.inr q,?_⟩
  rw [<- w.length]
  exact k _ G H (zd.refl sm) (yE.mpr rfl)
 |lst ys=>
  cases e
  obtain ⟨a,vs,rfl,q,w⟩:=r1.list sm
  refine zDx pins s σ H _ us Q I r ⟨a,vs,rfl,.inl q,?_⟩
  rw [<- w.length]
  exact k _ G H (zd.refl sm) (yE.mpr rfl)
 |str z=>
  simp only [zEF] at e
  split at e
  ·rename_i hz
   cases e
   have hx:=r1.str
   subst hx
   exact zHQ pins s σ H _ us Q I r ⟨z,rfl,zIe hz,k _ G H (zd.refl sm) (yE.mpr rfl)⟩
  ·cases e
 |_=>cases e
def zIO:D->Option D
 |.tup xs=>some (.tup xs)
 |.lst xs=>some (.tup xs)
 |_=>none
theorem yp:zAl X (.type "tuple") (cR X.K zIO):=by
 intro pins s σ H xs us Q I r h
 obtain ⟨G,d1,d,x,rfl,sm,r1,e,k⟩:=h
 cases d1 with
 |tup ys=>
  cases e
  obtain ⟨a,vs,rfl,q,w⟩:=r1.tup sm
  exact zCr pins s σ H _ us Q I r ⟨a,vs,rfl,.inr ⟨q,k _ G H (zd.refl sm) (r1.rep λ_ z=>by cases z)⟩⟩
 |lst ys=>
  cases e
  obtain ⟨a,vs,rfl,q,w⟩:=r1.list sm
  exact zCr pins s σ H _ us Q I r ⟨a,vs,rfl,.inl ⟨q,λp hp=>k _ _ _ (zd.new sm hp) (zBI.mpr ⟨p,_,rfl,zN,Reps.mono (yh (sm.free hp)) _ _ w⟩)⟩⟩
 |_=>cases e
def zQA:D->Option (List D)
 |.tup xs=>some xs
 |.lst xs=>some xs
 |_=>none
theorem zL7:zAl X (.type "list") (cF X.K zQA):=by
 intro pins s σ H xs us Q I r h
 obtain ⟨G,d1,ys,x,rfl,sm,r1,e,k⟩:=h
 cases d1 with
 |tup zs=>
  cases e
  obtain ⟨a,vs,rfl,q,w⟩:=r1.tup sm
  exact zDy pins s σ H _ us Q I r ⟨a,vs,rfl,.inr q,λp hp=>k p vs G _ (zd.newH sm hp) hp (sm.free hp) zN w⟩
 |lst zs=>
  cases e
  obtain ⟨a,vs,rfl,q,w⟩:=r1.list sm
  exact zDy pins s σ H _ us Q I r ⟨a,vs,rfl,.inl q,λp hp=>k p vs G _ (zd.newH sm hp) hp (sm.free hp) zN w⟩
 |_=>cases e
def zTk:D->Option D
 |.int i=>some (.int i)
 |.bl b=>some (.int (if b then 1 else 0))
 |_=>none
theorem zEf:zAl X (.type "int") (cR X.K zTk):=by
 intro pins s σ H xs us Q I r h
 obtain ⟨G,d1,d,x,rfl,sm,r1,e,k⟩:=h
 cases d1 with
 |int i=>cases e;have hx:=r1.int;subst hx;exact zHK pins s σ H _ us Q I r (.inl ⟨i,rfl,k _ G H (zd.refl sm) (yE.mpr rfl)⟩)
 |bl b=>cases e;have hx:=r1.bl;subst hx;exact zHK pins s σ H _ us Q I r (.inr ⟨b,rfl,k _ G H (zd.refl sm) (yE.mpr rfl)⟩)
 |_=>cases e
def zIf (x:Int):List Int->List Int
 | []=>[x]
 |y::ys=>if x<=y then x::y::ys else y::zIf x ys
def zBs:List Int->List Int
 | []=>[]
 |x::xs=>zIf x (zBs xs)
def ltS (a b:Str):Bool:=decide (a.cps.toList<b.cps.toList)
def zIg (x:Str):List Str->List Str
 | []=>[x]
 |y::ys=>if ltS y x then y::zIg x ys else x::y::ys
def zAn:List Str->List Str
 | []=>[]
 |x::xs=>zIg x (zAn xs)
def zKl:List D->Option (List Int)
 | []=>some []
 |.int i::r=>(zKl r).map (i :: ·)
 |_=>none
def zGa:List D->Option (List Str)
 | []=>some []
 |.str i::r=>(zGa r).map (i :: ·)
 |_=>none
def zFU:D->Option (List D):=λd=>(zQA d).bind λxs=>if xs.length<64 then match zKl xs with
  |some is=>some ((zBs is).map .int)
  |none=>(zGa xs).map λss=>(zAn ss).map .str
 else none
end
def zEg (names:List (Str×NameKind)) (cells:List (Str×Addr)):List (Str×Addr):=((names.filter λy=>y.2 == .free).reverse).map λy=>(y.1,(cells.lookup y.1).getD 0)
theorem zDz {env:Env}:∀ (names:List (Str×NameKind)) (acc:List (Str×Addr)),(∀ y∈names,y.2 = .free->∃ c,env.cells.lookup y.1=some c) ->
  (forIn names acc (λ(x:Str×NameKind) (cs:List (Str×Addr))=>(if x.2 == .free then (do let c <- cellOf env x.1;pure (ForInStep.yield ((x.1,c)::cs))) else pure (ForInStep.yield cs):Sem (ForInStep (List (Str×Addr))))))=pure (zEg names env.cells++acc)
 | [],acc,_=>by simp [zEg]
 |(n,k)::r,acc,h=>by
  have ih:=λacc=>zDz r acc λy hy=>h y (zUu _ hy)
  rw [List.forIn_cons]
  by_cases hk:(k == NameKind.free)=true
  ·obtain ⟨c,hc⟩:=h (n,k) zU0 (by simpa using hk)
   simp only [hk,zVp]
   have e1:cellOf env n=pure c:=by unfold cellOf;rw [hc]
   rw [e1]
   show (forIn r ((n,c)::acc) _:Sem (List (Str×Addr)))=_
   rw [ih]
   congr 1
   simp [zEg,hk,hc]
  ·simp only [hk,zV8]
   show (forIn r acc _:Sem (List (Str×Addr)))=_
   rw [ih]
   congr 1
   simp [zEg,hk]
theorem zBL {scope:Scope} {env:Env} (h:∀ y∈scope.names,y.2 = .free->∃ c,env.cells.lookup y.1=some c):closureFor scope env=pure (zEg scope.names env.cells):=by
 have:=zDz scope.names [] h
 rw [zVZ] at this
 unfold closureFor
 show (forIn scope.names [] _ >>= λcs=>pure cs)=_
 have e2:(forIn scope.names ([]:List (Str×Addr)) (λ(x:Str×NameKind) (cs:List (Str×Addr))=>(match x with|(name,kind)=>if kind == .free then (do let c <- cellOf env name;pure (ForInStep.yield ((name,c)::cs))) else pure (ForInStep.yield cs):Sem (ForInStep (List (Str×Addr))))))=pure (zEg scope.names env.cells):=this
 first
  |exact (zVw (λt=>t >>= λcs=>pure cs) e2).trans rfl
  |(erw [e2];rfl)
theorem zEh {names:List (Str×NameKind)} {cells:List (Str×Addr)} {x:Str} {c:Addr} (h:(zEg names cells).lookup x=some c):(x,NameKind.free)∈names/\c=(cells.lookup x).getD 0:=by
 have hm:=zV6 h
 obtain ⟨y,hy,e⟩:=zVT.mp hm
 obtain ⟨h1,h2⟩:=zV3.mp (List.mem_reverse.mp hy)
 cases e
 obtain ⟨n,k⟩:=y
 have:k = .free:=by simpa using h2
 subst this
 exact ⟨h1,rfl⟩
theorem zCw {F:Str->Addr}:∀ (l:List (Str×NameKind)) {x:Str},(∃ k,(x,k)∈l)->(l.map λy=>(y.1,F y.1)).lookup x=some (F x)
 | [],_,h=>by obtain ⟨_,h⟩:=h;cases h
 |(n,k)::r,x,h=>by
  rw [zUx,zVM]
  by_cases e:x=n
  ·subst e;simp
  ·have:(x == n)=false:=by simpa using e
   rw [this]
   refine zCw r ?_
   obtain ⟨k',h⟩:=h
   rcases zU1.mp h with q|q
   ·cases q;exact absurd rfl e
   ·exact ⟨k',q⟩
theorem zJn {names:List (Str×NameKind)} {cells:List (Str×Addr)} {x:Str} (h:(x,NameKind.free)∈names):(zEg names cells).lookup x=some ((cells.lookup x).getD 0):=by
 unfold zEg
 exact zCw (F:=λx=>(cells.lookup x).getD 0) _ ⟨.free,List.mem_reverse.mpr (zV3.mpr ⟨h,by simp⟩)⟩
def zAN (N nm:List Str) (inner outer:List (Str×NameKind)):Bool:=
 inner.all (λy=>y.2 != .cell && y.1 != "" && (y.2 != .local || inner.lookup y.1 == some .local) && (y.2 != .free || outer.lookup y.1 == some .cell || outer.lookup y.1 == some .free)) &&
 N.all (λx=>nm.contains x || match inner.lookup x with|none=>true|some .free=>true|some .globalImplicit=>true|some .globalExplicit=>true|_=>false)
def zHe (N nm:List Str):List Str:=N.map (λy=>if nm.contains y then ("" : Str) else y)++nm
def zj (X:Cx) (nm:List Str) (scope:Scope) (C:Addr) (s₃:Shared) (H₃:Hp) (ex:List Addr):Cx:=
 { X with N:=zHe X.N nm,s₀:=s₃,H₀:=H₃,env:=compEnvC scope (zEg scope.names X.env.cells) C X.env,outer:=X.stack,ex:=ex,fn:=λ_=>false,pn:=[],xe:=λ_ _=>False }
theorem zAo {env:Env} {x:Str} {k:NameKind}:∀ {names:List (Str×NameKind)},(names.map λ(n,k)=>if (k == NameKind.free && env.scope.kind == .function && env.kindOf n == some .cell) then (n,NameKind.cell) else (n,k)).lookup x=some k ->
  ∃ k',names.lookup x=some k'/\(k=k'\/(k = .cell/\k' = .free))
 | [],h=>by simp at h
 |(n,k0)::r,h=>by
  have ih:=@zAo env x k r
  rw [zUx] at h
  dsimp only at h
  rw [zVM]
  by_cases e:x=n
  ·subst e
   simp only [BEq.rfl]
   refine ⟨k0,rfl,?_⟩
   by_cases hc:(k0 == NameKind.free && env.scope.kind == .function && env.kindOf x == some .cell)=true
   ·rw [zVE hc,zVM] at h
    simp only [BEq.rfl] at h
    cases h
    simp only [zVm,zWm] at hc
    exact .inr ⟨rfl,hc.1.1⟩
   ·rw [zVe hc,zVM] at h
    simp only [BEq.rfl] at h
    cases h
    exact .inl rfl
  ·have e':(x == n)=false:=by simpa using e
   rw [e']
   refine ih ?_
   by_cases hc:(k0 == NameKind.free && env.scope.kind == .function && env.kindOf n == some .cell)=true
   ·rw [zVE hc,zVM,e'] at h;exact h
   ·rw [zVe hc,zVM,e'] at h;exact h
noncomputable def zP (g:D->Rho->Option Rho) (p:ROb) (f:ROd):List D->Rho->Option (List D)
 | [],_=>some []
 |d::ds,ρ=>(g d ρ).bind λρ1=>(p ρ1).bind λb=>if b=true then (f ρ1).bind λx=>(zP g p f ds ρ).map (x :: ·) else zP g p f ds ρ
noncomputable def zK (m:Nat) (fl:ROl) (g:D->Rho->Option Rho) (p:ROb) (f:ROd):ROl:=λρ=>(fl ρ).bind λds=>if ds.length<=1000000 then zP g p f ds (ρ++List.replicate m .un) else none
def STs (X:Cx) (ifs:List Expr) (p:ROb):Prop:=(ifs = []/\p=λ_=>some true)\/∃ c,ifs = [c]/\SB X c p
def zEi (H:Hp) (ρ:Rho) (σ:L2.St) (a:Addr):Prop:=∀ (j:Nat) (u:Sl) (b:Addr),ρ[j]?=some u->u.isObj=true->σ[j]?=some (some (.ref b))->a∉fpS H u b
theorem Er.app {K:Fg} {G H:Hp} {ρ:Rho} {σ:L2.St} (e:Er K G H ρ σ) (m:Nat) (τ:L2.St) (hτ:τ.length=m):Er K G H (ρ++List.replicate m .un) (σ++τ):=by
 have low:∀ {i:Nat} {s:Sl},(ρ++List.replicate m .un)[i]?=some s->s = .un\/(i<ρ.length/\ρ[i]?=some s):=λ{i s} h=>by
  by_cases hi:i<ρ.length
  ·rw [zVP hi] at h;exact .inr ⟨hi,h⟩
  ·rw [zVW (by omega),zVo] at h
   split at h<;>cases h
   exact .inl rfl
 have up:∀ {i:Nat},i<ρ.length->(σ++τ)[i]?=σ[i]?:=λ{i} hi=>zVP (by rw [<- e.len];exact hi)
 refine ⟨by simp [e.len,hτ],λi d h=>?_,λi u h o=>?_,λi j s t a b ne h1 o1 h2 o2 q1 q2=>?_⟩
 ·rcases low h with z|⟨hi,q⟩
  ·cases z
  ·rw [up hi];exact e.val i d q
 ·rcases low h with z|⟨hi,q⟩
  ·subst z;cases o
  ·rw [up hi];exact e.slot i u q o
 ·rcases low h1 with z|⟨hi,q⟩
  ·subst z;cases o1
  rcases low h2 with z|⟨hj,q'⟩
  ·subst z;cases o2
  rw [up hi] at q1
  rw [up hj] at q2
  exact e.sep i j s t a b ne q o1 q' o2 q1 q2
section
variable {X:Cx} {tg iter elt:Expr} {ifs:List Expr} {scope:Scope} {pos:Pos} {nm:List Str} {fl:ROl} {gd:D->Rho->Option Rho} {p:ROb} {f:ROd}
theorem yk {N nm:List Str} {inner outer:List (Str×NameKind)} (h:zAN N nm inner outer=true) {y:Str×NameKind} (hy:y∈inner) :
  y.2≠.cell/\y.1 ≠ ""/\(y.2 = .local->inner.lookup y.1=some .local)/\(y.2 = .free->outer.lookup y.1=some .cell\/outer.lookup y.1=some .free):=by
 unfold zAN at h
 rw [zVm,zWa] at h
 have:=h.1 y hy
 simp only [zVm,zXN,bne_iff_ne,ne_eq,zWm] at this
 obtain ⟨⟨⟨h1,h2⟩,h3⟩,h4⟩:=this
 refine ⟨h1,h2,λe=>?_,λe=>?_⟩
 ·rcases h3 with z|z
  ·exact absurd e z
  ·exact z
 ·rcases h4 with (z|z)|z
  ·exact absurd e z
  ·exact .inl z
  ·exact .inr z
theorem zOO {N nm:List Str} {inner outer:List (Str×NameKind)} (h:zAN N nm inner outer=true) {x:Str} (hx:x∈N) (hn:¬ nm.contains x=true) {k:NameKind} (hk:inner.lookup x=some k):k≠.local/\k≠.cell:=by
 unfold zAN at h
 rw [zVm,zWa,zWa] at h
 have:=h.2 x hx
 rw [zXN] at this
 rcases this with z|z
 ·exact absurd z hn
 ·rw [hk] at z
  cases k<;>first|exact ⟨by decide,by decide⟩|exact absurd z (by decide)
theorem zL8 {pins:PNt} {σ:L2.St} {H:Hp} {s:Shared} (I:Inv X pins σ H s) (hk:scope.kind = .function) (hok:zAN X.N nm scope.names X.env.scope.names=true) {ex:List Addr} (hex:∀ b∈ex,FpOk X pins H b) (hlt:∀ b∈ex,b<s.heap.objs.size) :
  (zj X nm scope s.heap.objs.size s H ex).Ok:=by
 have cellsOk:∀ x c,(zEg scope.names X.env.cells).lookup x=some c->X.env.cells.lookup x=some c:=λx c e=>by
  obtain ⟨h1,h2⟩:=zEh e
  have h3:=(yk hok h1).2.2.2 rfl
  obtain ⟨c',h4⟩:=I.ok.has x h3
  rw [h4] at h2
  rw [h4,h2];rfl
 refine ⟨I.ok.mod,?_,I.ok.glob,I.ok.blt,zVA _,λx y c h1 h2=>I.ok.inj x y c (cellsOk x c h1) (cellsOk y c h2),λx hx=>?_,λx c z=>(by cases z),I.ok.hd,I.ok.frames,.inl rfl,λb hb=>⟨?_,λx c e=>?_⟩,I.bs,zVb I.ok.bsz I.sz,λb o e hb=>?_,λb hb hf=>?_,I.stack,I.stkFree⟩
 ·show (relabel scope X.env).kind = .function
  exact hk
 ·have:∃ k,(relabel scope X.env).names.lookup x=some k/\(k = .cell\/k = .free):=by
   rcases hx with z|z
   ·exact ⟨_,z,.inl rfl⟩
   ·exact ⟨_,z,.inr rfl⟩
  obtain ⟨k,e,hk'⟩:=this
  obtain ⟨k',e1,e2⟩:=zAo e
  have hm:=zV6 e1
  have hc:=(yk hok hm).1
  have hf:k' = .free:=by
   rcases e2 with z|⟨_,z⟩
   ·subst z
    rcases hk' with z|z
    ·exact absurd z hc
    ·exact z
   ·exact z
  subst hf
  exact ⟨_,zJn hm⟩
 ·exact zVN (hlt b hb)
 ·exact (hex b hb).2.2.2.2.1 x c (cellsOk x c e)
 ·have h1:=(hex b hb).2.2.2.1
  rcases h1 with z|z
  ·exact I.ok.noex b o e z
  ·exact absurd (zU8 (zVB (I.ok.bs b o e).1) z) (zWE _)
 ·have h1:=I.stkSub b hf
  rcases zU1.mp h1 with z|z
  ·exact (hex b hb).2.1 z
  ·exact (hex b hb).2.2.1 z
theorem zL9 (N nm:List Str):(zHe N nm).length=N.length+nm.length:=by simp [zHe]
theorem zKm {pins:PNt} {σ:L2.St} {H:Hp} {s:Shared} (I:Inv X pins σ H s) (hk:scope.kind = .function) (hok:zAN X.N nm scope.names X.env.scope.names=true) {ex:List Addr} (hex:∀ b∈ex,FpOk X pins H b) (hlt:∀ b∈ex,b<s.heap.objs.size)
  {h₁:Heap} {m₁:MGt} {tk:Nat} (hn:h₁.Ns s.heap.objs.size m₁) (keep:∀ b o,s.heap.get? b=some o->h₁.get? b=some o) :
  Inv (zj X nm scope s.heap.objs.size s H ex) [] (σ++List.replicate nm.length none) H { s with heap:=h₁,toks:=tk }:=by
 have ok:=zL8 (nm:=nm) (scope:=scope) I hk hok hex hlt
 have cellsOk:∀ x c,(zEg scope.names X.env.cells).lookup x=some c->X.env.cells.lookup x=some c:=λx c e=>by
  obtain ⟨h1,h2⟩:=zEh e
  have h3:=(yk hok h1).2.2.2 rfl
  obtain ⟨c',h4⟩:=I.ok.has x h3
  rw [h4] at h2
  rw [h4,h2];rfl
 refine ⟨ok,rfl,I.bare,Un.kept keep,⟨m₁,hn,λi x v e1 e2 e3=>?_⟩,λx c e=>?_,I.hok.fresh (zVA _),λx c e=>I.freeC x c (cellsOk x c e),λp hp=>(by simp [zj] at hp),I.hok.kept keep,?_⟩
 ·have hi:i<X.N.length:=by
   by_cases hi:i<σ.length
   ·rw [<- I.len];exact hi
   ·rw [zVW (by omega),zVo] at e2
    split at e2<;>cases e2
  have e1':(X.N.map (λy=>if nm.contains y then ("" : Str) else y))[i]?=some x:=by
   have:(zHe X.N nm)[i]?=some x:=e1
   unfold zHe at this
   rwa [zVP (by simpa using hi)] at this
  have e2':σ[i]?=some (some v):=by rwa [zVP (by rw [I.len];exact hi)] at e2
  rw [zVc] at e1'
  obtain ⟨y,ey,e4⟩:=zUt.mp e1'
  have e3':∃ k,(relabel scope X.env).names.lookup x=some k/\(k = .local\/k = .cell\/k = .free):=by
   rcases e3 with z|z|z
   ·exact ⟨_,z,.inl rfl⟩
   ·exact ⟨_,z,.inr (.inl rfl)⟩
   ·exact ⟨_,z,.inr (.inr rfl)⟩
  obtain ⟨k,hk1,hk2⟩:=e3'
  obtain ⟨k',hk3,hk4⟩:=zAo hk1
  have hm:=zV6 hk3
  by_cases hc:nm.contains y=true
  ·rw [zVE hc] at e4
   exact absurd e4.symm (yk hok hm).2.1
  ·rw [zVe hc] at e4
   subst e4
   obtain ⟨n1,n2⟩:=zOO hok (zVF ey) hc hk3
   have hf:k' = .free:=by
    rcases hk4 with z|⟨_,z⟩
    ·subst z
     rcases hk2 with z|z|z
     ·exact absurd z n1
     ·exact absurd z n2
     ·exact z
    ·exact z
   subst hf
   have ho:=(yk hok hm).2.2.2 rfl
   obtain ⟨m0,hn0,hl0⟩:=I.loc
   obtain ⟨u,r,l⟩:=hl0 i y v ey e2' (by rcases ho with z|z;exact .inr (.inl z);exact .inr (.inr z))
   refine ⟨u,r,?_⟩
   rcases l with ⟨z,_⟩|⟨_,c,hc1,hc2⟩
   ·have z':X.env.scope.names.lookup y=some .local:=z
    rcases ho with q|q
    ·rw [q] at z';cases z'
    ·rw [q] at z';cases z'
   ·right
    refine ⟨?_,c,?_,?_⟩
    ·rcases hk2 with z|z|z
     ·subst z
      rcases hk4 with q|⟨q,_⟩<;>cases q
     ·exact .inl (by rw [<- z];exact hk1)
     ·exact .inr (by rw [<- z];exact hk1)
    ·show (zEg scope.names X.env.cells).lookup y=some c
     rw [zJn hm,hc1];rfl
    ·obtain ⟨o,q1,q2⟩:=hc2
     exact ⟨o,keep _ _ q1,q2⟩
 ·obtain ⟨v,o,q1,q2⟩:=I.cell x c (cellsOk x c e)
  exact ⟨v,o,keep _ _ q1,q2⟩
 ·show _=(zHe X.N nm).length
  rw [zL9,zU9,zXC,I.len]
def zBt (n:Nat) (g:D->Rho->Option Rho):Prop:=∀ d ρ ρ1,g d ρ=some ρ1->ρ1.length=ρ.length/\(∀ i,i<n->ρ1[i]?=ρ[i]?)/\∀ (i:Nat) (s:Sl),ρ1[i]?=some s->ρ[i]?=some s\/∃ d,s = .v d
theorem yH {n i:Nat} (h:n<=i):zBt n (gN i):=λd ρ ρ1 e=>by
 cases e
 exact ⟨by simp,λj hj=>zVH (by omega),λj u h=>(zu h).elim (λz=>.inr ⟨d,z.2.1⟩) λz=>.inl z.2⟩
def zGb (n:Nat) (g:List D->Rho->Option Rho):Prop:=∀ d ρ ρ1,g d ρ=some ρ1->ρ1.length=ρ.length/\(∀ i,i<n->ρ1[i]?=ρ[i]?)/\∀ (i:Nat) (s:Sl),ρ1[i]?=some s->ρ[i]?=some s\/∃ d,s = .v d
theorem zHf {n:Nat}:zGb n gNl:=λd ρ ρ1 e=>by
 cases d with
 |nil=>cases e;exact ⟨rfl,λ_ _=>rfl,λ_ _ h=>.inl h⟩
 |cons _ _=>cases e
theorem zCx {n:Nat} {g:D->Rho->Option Rho} {gs:List D->Rho->Option Rho} (h1:zBt n g) (h2:zGb n gs):zGb n (gCs g gs):=λd ρ ρ1 e=>by
 cases d with
 |nil=>cases e
 |cons d ds=>
  obtain ⟨ρ2,e1,e2⟩:=zUs.mp e
  obtain ⟨a1,a2,a3⟩:=h1 _ _ _ e1
  obtain ⟨b1,b2,b3⟩:=h2 _ _ _ e2
  exact ⟨b1.trans a1,λi hi=>(b2 i hi).trans (a2 i hi),λi u h=>(b3 i u h).elim (a3 i u) .inr⟩
theorem zJo {n k:Nat} {gs:List D->Rho->Option Rho} (h2:zGb n gs):zBt n (gT k gs):=λd ρ ρ1 e=>by
 cases d with
 |tup ds=>
  simp only [gT] at e
  split at e
  ·exact h2 _ _ _ e
  ·cases e
 |_=>cases e
theorem Er.drop {K:Fg} {G H:Hp} {ρ ρ1:Rho} {σ:L2.St} {m:Nat} (e:Er K G H ρ1 σ) (hl:ρ1.length=(ρ++List.replicate m Sl.un).length) (hk:∀ i,i<ρ.length->ρ1[i]?=(ρ++List.replicate m Sl.un)[i]?):Er K G H (ρ++List.replicate m .un) σ:=by
 have low:∀ {i:Nat} {s:Sl},(ρ++List.replicate m .un)[i]?=some s->s = .un\/ρ1[i]?=some s:=λ{i s} h=>by
  by_cases hi:i<ρ.length
  ·right;rw [hk i hi];exact h
  ·rw [zVW (by omega),zVo] at h
   split at h<;>cases h
   exact .inl rfl
 refine ⟨hl.symm.trans e.len,λi d h=>?_,λi u h o=>?_,λi j s t a b ne h1 o1 h2 o2 q1 q2=>?_⟩
 ·rcases low h with z|q
  ·cases z
  ·exact e.val i d q
 ·rcases low h with z|q
  ·subst z;cases o
  ·exact e.slot i u q o
 ·rcases low h1 with z|q
  ·subst z;cases o1
  rcases low h2 with z|q'
  ·subst z;cases o2
  exact e.sep i j s t a b ne q o1 q' o2 q1 q2
theorem Er.toSt {K:Fg} {G H:Hp} {ρ:Rho} {σ:L2.St} (e:Er K G H ρ σ) (s:zf G H):StR K G (qM H ρ σ) G H ρ σ:=
 ⟨e,⟨s,zf.refl _,zEd,λb o e n=>by rw [e] at n;cases n⟩,λi u a h o q c m=>zDX h o q m⟩
theorem zEi.grow {K:Fg} {G H H':Hp} {ρ:Rho} {σ:L2.St} {a:Addr} (e:Er K G H ρ σ) (t:zf H H') (n:zEi H ρ σ a):zEi H' ρ σ a:=λj u b h o q=>by rw [e.fp t h o q];exact n j u b h o q
theorem zEi.upd {K:Fg} {G H:Hp} {ρ:Rho} {σ:L2.St} {a:Addr} {o:HO} (e:Er K G H ρ σ) (n:zEi H ρ σ a):zEi (L2.upd H a o) ρ σ a:=λj u b h ob q=>by
 obtain ⟨b',h1,h2,_⟩:=e.slot j u h ob
 rw [q] at h1;cases h1
 rw [(h2.same (zf.refl _) λc m v z=>by rw [zJ (λy=>n j u b h ob q (by rw [<- y];exact m))];exact z).2]
 exact n j u b h ob q
theorem zEi.new {K:Fg} {G H:Hp} {ρ:Rho} {σ:L2.St} {a:Addr} (e:Er K G H ρ σ) (n:H a=none):zEi H ρ σ a:=λj u b h o q m=>by
 obtain ⟨⟨x,z⟩,_⟩:=e.there h o q m
 rw [n] at z;cases z
theorem Er.updOther {K:Fg} {G H:Hp} {ρ:Rho} {σ:L2.St} {a:Addr} {o:HO} (e:Er K G H ρ σ) (n:zEi H ρ σ a):Er K G (upd H a o) ρ σ:=e.hop (zf.refl _) λi s b h ob q c m=>
 ⟨λu z=>by rw [zJ (λy=>n i s b h ob q (by rw [<- y];exact m))];exact z,(e.there h ob q m).2⟩
theorem zEi.app {K:Fg} {G H H':Hp} {ρ:Rho} {σ τ:L2.St} {a:Addr} {m:Nat} (n:zEi H' ρ σ a) (e:Er K G H ρ σ):zEi H' (ρ++List.replicate m .un) (σ++τ) a:=λj u b h1 h2 h3=>by
 by_cases hj:j<ρ.length
 ·rw [zVP hj] at h1
  rw [zVP (by rw [<- e.len];exact hj)] at h3
  exact n j u b h1 h2 h3
 ·rw [zVW (by omega),zVo] at h1
  split at h1<;>cases h1
  cases h2
theorem zEi.drop {H:Hp} {ρ ρ1:Rho} {σ:L2.St} {a:Addr} {m:Nat} (n:zEi H ρ1 σ a) (hk:∀ i,i<ρ.length->ρ1[i]?=(ρ++List.replicate m Sl.un)[i]?):zEi H (ρ++List.replicate m .un) σ a:=λj u b h1 h2 h3=>by
 by_cases hj:j<ρ.length
 ·exact n j u b (by rw [hk j hj];exact h1) h2 h3
 ·rw [zVW (by omega),zVo] at h1
  split at h1<;>cases h1
  cases h2
theorem zOP {K:Fg} {G H:Hp} {ρ ρ1:Rho} {σ σ1:L2.St} {a:Addr} {o:HO} (e:Er K G H ρ σ) (n:zEi H ρ σ a) (st:StR K G (qM H ρ σ) G H ρ1 σ1) (k:∀ (i:Nat) (s:Sl),ρ1[i]?=some s->ρ[i]?=some s\/∃ d,s = .v d) (h:H a=some o):zEi H ρ1 σ1 a:=λj u b h1 h2 h3 m=>by
 cases ho:u.isOwn with
 |true=>
  have q:=st.ows j u b h1 ho h3 a m
  unfold qM at q
  split at q
  ·rename_i hh
   obtain ⟨i',u',a',w1,w2,w3,w4⟩:=hh
   exact n i' u' a' w1 (Sl.obj_of_own w2) w3 w4
  ·rw [h] at q;cases q
 |false=>
  rcases k j u h1 with z|⟨d,z⟩
  ·cases u with
   |b c x=>
    obtain ⟨a1,e1,e2,_⟩:=e.slot j _ z rfl
    obtain ⟨a2,e3,e4,_⟩:=st.er.slot j _ h1 rfl
    rw [h3] at e3;cases e3
    have y1:=e2.2;have y2:=e4.2
    subst y1;subst y2
    exact n j _ _ z rfl e1 m
   |_=>first|(cases h2;done)|(cases ho;done)
  ·subst z;cases h2
theorem zHg {prog:Program} {w:World} {A:Around} {R:Result->Shared->Prop} {s:Shared} {it acc:Value} {env:Env} (W:Nat->Shared->Prop)
  (turn:∀ n s,W n s->wpAny (model prog w) A (pyNext it) (λr s₁=>match r with
   |none=>R (.ok .next) s₁
   |some v=>wpAny (model prog w) A (letOwnedTupleGo tg it v) (λ_ s₁=>wpAny (model prog w) A (assign tg env v) (λ_ s₂=>
     wpAny (model prog w) A (forIn ifs true λc r=>if r=true then do let ok <- isTrue c env (eval c env);pure (ForInStep.yield ok) else pure (ForInStep.yield r)) (λok s₃=>
      if ok=true then wpAny (model prog w) A (eval elt env) (λx s₄=>
       wpAny (model prog w) A (call (.builtin "list.append") [acc,x]) (λ_ s₅=>∃ m,m<n/\W m s₅) (notedBy (model prog w) A env λe s'=>R (.error e) s') s₄) (notedBy (model prog w) A env λe s'=>R (.error e) s') s₃
      else ∃ m,m<n/\W m s₃) (notedBy (model prog w) A env λe s'=>R (.error e) s') s₂) (notedBy (model prog w) A env λe s'=>R (.error e) s') s₁) (notedBy (model prog w) A env λe s'=>R (.error e) s') s₁) (notedBy (model prog w) A env λe s'=>R (.error e) s') s)
  (n:Nat) (h:W n s) :
  codeAny (model prog w) A (.compLoop (.ListComp elt [⟨tg,iter,ifs,0⟩] scope pos) 0 it acc env) R s:=by
 refine codeAny_loop rfl W (λn s hI=>?_) n h
 show wpAny _ A ((compTurn (.ListComp elt [⟨tg,iter,ifs,0⟩] scope pos) 0 it acc env).onRaise (λx=>do noteFrame x env;theTreesLotGoes x)) _ _ s
 refine wpAny_noted ?_
 rw [compTurn_list]
 refine zUz (wpAny_standAt (zUz (zVk (turn n s hI) (λr s₁ h₁=>?_) λ_ _ h'=>h')))
 cases r with
 |none=>exact zU6 h₁
 |some v=>
  refine zUz (zVk h₁ (λ_ s₁ h₁=>?_) λ_ _ h'=>h')
  refine zUz (zVk h₁ (λ_ s₂ h₂=>zUz (zVk h₂ (λok s₃ h₃=>?_) λ_ _ h'=>h')) λ_ _ h'=>h')
  cases ok with
  |false=>exact zU6 ⟨rfl,h₃⟩
  |true=>
   exact zUz (zUz (zVk h₃ (λx s₄ h₄=>zUz (zVk h₄ (λ_ s₅ h₅=>zU6 (zU6 ⟨rfl,h₅⟩)) λ_ _ h'=>h')) λ_ _ h'=>h'))
theorem zMA {X:Cx} {pins:PNt} {σ:L2.St} {H G:Hp} {s:Shared} {ρ:Rho} {b:Bool} {E:VSt} (hx:X.xe=λ_ _=>False) (ht:STs X ifs p) (I:Inv X pins σ H s) (sm:zf G H) (er:Er X.K G H ρ σ) (hp:p ρ=some b) {Q:Bool->Shared->Prop}
  (hQ:∀ G' H' s',Inv X pins σ H' s'->zd G H G' H'->Q b s') :
  wpAny (model X.prog X.w) X.A (forIn ifs true λc r=>if r=true then do let ok <- isTrue c X.env (eval c X.env);pure (ForInStep.yield ok) else pure (ForInStep.yield r)) Q E s:=by
 rcases ht with ⟨rfl,rfl⟩|⟨c,rfl,hb⟩
 ·cases hp
  rw [List.forIn_nil]
  exact zU6 (hQ G H s I (zd.refl sm))
 ·rw [List.forIn_cons]
  simp only [zVp]
  have:=hb pins s σ H (λk H'=>k=b/\∃ G',zd G H G' H') I ⟨G,ρ,b,sm,er,hp,λG' H' t=>⟨rfl,G',t⟩⟩
  rw [hx] at this
  refine zUz (zUz (zVk this (λk s1 h1=>?_) λ_ _ z=>z.elim))
  obtain ⟨H',I',rfl,G',t⟩:=h1
  refine zU6 ?_
  show wpAny _ _ (forIn [] _ _) _ _ _
  rw [List.forIn_nil]
  exact zU6 (hQ G' H' s1 I' t)
end
end RD
namespace RD
open PySem PySem.Spec PyProof.Rows L2 SeqAt
theorem zEj (x:Int):∀ xs,(zIf x xs).Perm (x::xs)
 | []=>zWp _
 |y::ys=>by
  unfold zIf
  split
  ·exact zWp _
  ·exact ((zEj x ys).cons y).trans (List.Perm.swap x y ys)
theorem zA0:∀ xs,(zBs xs).Perm xs
 | []=>zWp _
 |x::xs=>(zEj x _).trans ((zA0 xs).cons x)
theorem zMB (x:Int):∀ xs,xs.Pairwise (·<=·)->(zIf x xs).Pairwise (·<=·)
 | [],_=>by simp [zIf]
 |y::ys,h=>by
  unfold zIf
  split
  ·rename_i hxy
   refine zVI.mpr ⟨λz hz=>?_,h⟩
   rcases zU1.mp hz with rfl|hz
   ·exact hxy
   ·exact Int.le_trans hxy ((zVI.mp h).1 z hz)
  ·rename_i hxy
   refine zVI.mpr ⟨λz hz=>?_,zMB x ys (zVI.mp h).2⟩
   rcases zU1.mp ((zEj x ys).mem_iff.mp hz) with rfl|hz
   ·omega
   ·exact (zVI.mp h).1 z hz
theorem zGc:∀ xs,(zBs xs).Pairwise (·<=·)
 | []=>by simp [zBs]
 |x::xs=>zMB x _ (zGc xs)
theorem zCy:∀ (a b:List Int),a.Perm b->a.Pairwise (·<=·)->b.Pairwise (·<=·)->a=b:=λa b p h1 h2=>
 p.eq_of_pairwise (λx y _ _ h3 h4=>Int.le_antisymm h3 h4) h1 h2
def leS (a b:Str):Prop:=ltS b a=false
theorem zHh {a b:Str} (h1:leS a b) (h2:leS b a):a=b:=by
 unfold leS ltS at h1 h2
 have h1':¬ b.cps.toList<a.cps.toList:=by simpa using h1
 have h2':¬ a.cps.toList<b.cps.toList:=by simpa using h2
 have h3:a.cps.toList=b.cps.toList:=List.le_antisymm (zWr.mp h1') (zWr.mp h2')
 cases a;cases b
 simp only [Str.mk.injEq]
 exact Array.toList_inj.mp h3
theorem zHi {a b c:Str} (h1:leS a b) (h2:leS b c):leS a c:=by
 unfold leS ltS at *
 have h1':¬ b.cps.toList<a.cps.toList:=by simpa using h1
 have h2':¬ c.cps.toList<b.cps.toList:=by simpa using h2
 have:=List.le_trans (zWr.mp h1') (zWr.mp h2')
 simpa using zWr.mpr this
theorem zMC {a b:Str} (h:ltS a b=true):leS a b:=by
 unfold leS ltS at *
 have h':a.cps.toList<b.cps.toList:=by simpa using h
 simpa using zWr.mpr (List.le_of_lt h')
theorem zEk (x:Str):∀ xs,(zIg x xs).Perm (x::xs)
 | []=>zWp _
 |y::ys=>by
  unfold zIg
  split
  ·exact ((zEk x ys).cons y).trans (List.Perm.swap x y ys)
  ·exact zWp _
theorem zA1:∀ xs,(zAn xs).Perm xs
 | []=>zWp _
 |x::xs=>(zEk x _).trans ((zA1 xs).cons x)
theorem zMD (x:Str):∀ xs,xs.Pairwise leS->(zIg x xs).Pairwise leS
 | [],_=>by simp [zIg]
 |y::ys,h=>by
  unfold zIg
  split
  ·rename_i hxy
   refine zVI.mpr ⟨λz hz=>?_,zMD x ys (zVI.mp h).2⟩
   rcases zU1.mp ((zEk x ys).mem_iff.mp hz) with rfl|hz
   ·exact zMC hxy
   ·exact (zVI.mp h).1 z hz
  ·rename_i hxy
   have hxy':leS x y:=by unfold leS;simpa using hxy
   refine zVI.mpr ⟨λz hz=>?_,h⟩
   rcases zU1.mp hz with rfl|hz
   ·exact hxy'
   ·exact zHi hxy' ((zVI.mp h).1 z hz)
theorem zGd:∀ xs,(zAn xs).Pairwise leS
 | []=>by simp [zAn]
 |x::xs=>zMD x _ (zGd xs)
theorem zFp {p:Str}:∀ {l:List Str},risingS p l=true->(p::l).Pairwise leS
 | [],_=>by simp
 |x::r,h=>by
  have h':(!ltCps x.cps.toList p.cps.toList && risingS x r)=true:=h
  rw [zVm] at h'
  have h2:=zFp h'.2
  have h1:leS p x:=by
   unfold leS ltS
   have:=h'.1
   rw [ltCps_eq] at this
   simpa using this
  refine zVI.mpr ⟨λz hz=>?_,h2⟩
  rcases zU1.mp hz with rfl|hz
  ·exact h1
  ·exact zHi h1 ((zVI.mp h2).1 z hz)
theorem zFq {l:List Str} (h:sortedS l=true):l.Pairwise leS:=by
 cases l with
 |nil=>simp
 |cons p l=>exact zFp h
theorem zCz (a b:List Str) (p:a.Perm b) (h1:a.Pairwise leS) (h2:b.Pairwise leS):a=b:=
 p.eq_of_pairwise (λx y _ _ h3 h4=>zHh h3 h4) h1 h2
theorem zEl:∀ {xs:List D} {is:List Int},zKl xs=some is->xs=is.map .int
 | [],is,h=>by cases h;rfl
 |d::r,is,h=>by
  cases d with
  |int i=>
   obtain ⟨js,e,rfl⟩:=zUt.mp h
   rw [zUx,<- zEl e]
  |_=>cases h
theorem zC0:∀ {xs:List D} {is:List Str},zGa xs=some is->xs=is.map .str
 | [],is,h=>by cases h;rfl
 |d::r,is,h=>by
  cases d with
  |str i=>
   obtain ⟨js,e,rfl⟩:=zUt.mp h
   rw [zUx,<- zC0 e]
  |_=>cases h
section
variable {K:Fg} {G:Hp}
theorem zHj:∀ {is:List Int} {vs:List V},Reps K G (is.map .int) vs->vs=is.map V.int
 | [],vs,h=>yP.mp h
 |i::is,vs,h=>by
  obtain ⟨v,r,rfl,h1,h2⟩:=za.mp h
  rw [yE.mp h1,zHj h2];rfl
theorem zEm:∀ {is:List Str} {vs:List V},Reps K G (is.map .str) vs->vs=is.map V.str
 | [],vs,h=>yP.mp h
 |i::is,vs,h=>by
  obtain ⟨v,r,rfl,h1,h2⟩:=za.mp h
  rw [zAK.mp h1,zEm h2];rfl
theorem Reps.strs:∀ (ns:List Str),Reps K G (ns.map D.str) (ns.map V.str)
 | []=>Reps.nil
 |n::ns=>Reps.cons (zAK.mpr rfl) (Reps.strs ns)
end
theorem zCF:∀ {ss:List Str} {us:List Value},yN (ss.map V.str) us->StrsAre us ss
 | [],us,r=>by cases r;exact .nil
 |s::ss,us,r=>by
  cases r with
  |cons r1 r2=>obtain ⟨t,rfl⟩:=r1;exact .cons s t (zCF r2)
theorem zDZ:∀ {ss:List Str} {us:List Value},StrsAre us ss->yN (ss.map V.str) us
 |_,_,.nil=>.nil
 |_,_,.cons y t h=>.cons ⟨t,rfl⟩ (zDZ h)
theorem zDa:∀ {ns:List Int} {us:List Value},IntsAre us ns->yN (ns.map V.int) us
 |_,_,.nil=>.nil
 |_,_,.cons y t h=>.cons ⟨t,rfl⟩ (zDa h)
section
variable {X:Cx} {a b:Expr} {f g:ROd} {fl:ROl} {pos:Pos}
def zC1:D->Option (List D)
 |.lst xs=>zFU (.lst xs)
 |_=>none
theorem zFr:zAl X (.builtin "sorted") (cF X.K zC1):=by
 intro pins s σ H xs us Q I r h
 obtain ⟨G,d1,ys,x,rfl,sm,r1,e,k⟩:=h
 obtain ⟨u,rfl,ru⟩:=zDT r
 cases d1 with
 |lst zs=>
  simp only [zC1,zFU,zQA,zUw] at e
  obtain ⟨a,vs,rfl,q,w⟩:=r1.list sm
  cases ru
  obtain ⟨its,vv,p,hz⟩:=I.list q
  split at e
  ·rename_i hl
   have l1:=w.length
   have l2:=vv.length
   have fin:∀ {out:Array Value} {vs':List V} {ys':List D},yN vs' out.toList->Reps X.K G ys' vs'->vs'.length<=sizeLine->ys=ys'->EP X pins σ Q (.ref (s.heap.objs.size+1)) { s with heap:=sortedAll s.heap its out }:=λ{out vs' ys'} h1 h2 h3 h4=>by
    subst h4
    have hn:H (s.heap.objs.size+1)=none:=I.hok.fresh (zW4 _)
    obtain ⟨e',he⟩:=sortedAll_at s.heap its out
    refine ⟨.ref (s.heap.objs.size+1),upd H (s.heap.objs.size+1) (.lst vs'),I.laid (t':=s.toks) (λ_ _=>sortedAll_old) (zW4 _) ⟨h3,out.toList,e',h1,?_⟩,rfl,k _ vs' G _ (zd.newH sm hn) hn (sm.free hn) zN h2⟩
    rw [he]
   split at e
   ·rename_i is hi
    cases e
    have:=zEl hi
    subst this
    have hv:=zHj w
    subst hv
    refine sorted_ints p.isList (zFk vv) (by omega) λout ns' a1 a2 a3=>?_
    have e5:=zCy _ _ (a2.trans (zA0 is).symm) a3 (zGc is)
    subst e5
    refine fin (zDa a1) (Reps.ints _) ?_ rfl
    have:=(zA0 is).length_eq
    rw [zU4] at l1 ⊢
    simp only [zU4] at hl
    exact zAc (by omega)
   ·rename_i hi
    obtain ⟨ss,e2,rfl⟩:=zUt.mp e
    have:=zC0 e2
    subst this
    have hv:=zEm w
    subst hv
    refine sorted_strs p.isList (zCF vv) (by omega) λout ns' a1 a2 a3=>?_
    have e5:=zCz _ _ (a2.trans (zA1 ss).symm) (zFq a3) (zGd ss)
    subst e5
    refine fin (zDZ a1) (Reps.strs _) ?_ rfl
    have:=(zA1 ss).length_eq
    rw [zU4] at l1 ⊢
    simp only [zU4] at hl
    exact zAc (by omega)
  ·cases e
 |_=>cases e
def zKn (sep:Str):D->Option D
 |.lst xs=>(zGa xs).bind λss=>if (ss.map (·.length)).sum+ss.length*sep.length<=1000000 then some (.str (Txt.join sep ss)) else none
 |_=>none
theorem zRP {sep:Str} {j:Nat} {p1 apos cpos:Pos} (ha:SR X a f)
  (hbase:attributeBase (.Constant (.str sep) j p1) "join" X.env (eval (.Constant (.str sep) j p1) X.env)=eval (.Constant (.str sep) j p1) X.env:=by rfl)
  (hfew:((backTo cpos (starEach [a] X.env)).all (λx=>!x.1) && (backToKw cpos (keywordEach [] X.env)).all (λx=>x.1.isSome)
   && decide ([a].length+([]:List Keyword).length+(if ([]:List Keyword).isEmpty then 0 else 1)<30))=true:=by rfl)
  (hline:(apos.endLine == cpos.line)=true:=by rfl) (hs:starEach [a] X.env=(false,eval a X.env)::starEach [] X.env:=by rfl) (hplain:(backTo cpos (starEach [] X.env)).any (·.1)=false:=by rfl) :
  SE X (.Call (.Attribute (.Constant (.str sep) j p1) "join" apos) [a] [] cpos) (b1 f (zKn sep)):=by
 have hm:MtR X "str.join" (λx xs H Q=>x = .str sep/\cR X.K (zKn sep) xs H Q):=by
  rintro pins s σ H x xs v us Q I rx r ⟨ex,G,d1,d,y,ey,sm,r1,e,k⟩
  subst ex ey
  obtain ⟨t,rfl⟩:=rx
  obtain ⟨u,rfl,ru⟩:=zDT r
  cases d1 with
  |lst zs=>
   obtain ⟨ss,e1,e⟩:=zUs.mp e
   split at e
   ·rename_i hl
    cases e
    obtain ⟨a,vs,rfl,q,w⟩:=r1.list sm
    cases ru
    obtain ⟨its,vv,p,hz⟩:=I.list q
    have:=zC0 e1
    subst this
    have hv:=zEm w
    subst hv
    exact join_list p.isList (zCF vv) (by omega) λt' k'=>⟨.str _,H,I.tok _,⟨_,rfl⟩,k _ G H (zd.refl sm) (zAK.mpr rfl)⟩
   ·cases e
  |_=>cases e
 refine zAy (zGQ PySem.F.plainAttrs_str PySem.F.slot_str_join PySem.F.type_str_join hm zPs (yD ha yy hs) hbase hfew hline hs hplain) λσ H Q h=>?_
 refine ⟨rfl,?_⟩
 obtain ⟨G,ρ,d,s,er,ef,k⟩:=h
 obtain ⟨d1,e1,ef⟩:=zUs.mp ef
 exact ⟨G,ρ,d1,s,er,e1,λv1 G1 H1 t1 r1=>⟨rfl,G1,d1,d,v1,rfl,t1.s,r1,ef,λv G' H' t r=>k v G' H' (t1.trans t) r⟩⟩
noncomputable def zFV (i:Nat) (f:ROd):ROo:=λρ=>(gL ρ i).bind λxs=>if xs.length<16000000 then (f ρ).map λd=>.nx (ρ.set i (.l (xs ++ [d]))) else none
variable {o:Expr} {i:Nat} {apos cpos:Pos}
theorem yR (i:Nat) (ho:PE X o (zBG i)) (ha:SE X a f)
  (hbase:attributeBase o "append" X.env (eval o X.env)=eval o X.env:=by rfl)
  (hfew:((backTo cpos (starEach [a] X.env)).all (λx=>!x.1) && (backToKw cpos (keywordEach [] X.env)).all (λx=>x.1.isSome)
   && decide ([a].length+([]:List Keyword).length+(if ([]:List Keyword).isEmpty then 0 else 1)<30))=true:=by rfl)
  (hline:(apos.endLine == cpos.line)=true:=by rfl) (hs:starEach [a] X.env=(false,eval a X.env)::starEach [] X.env:=by rfl) (hplain:(backTo cpos (starEach [] X.env)).any (·.1)=false:=by rfl)
  (hsw:swapsWith (.Call (.Attribute o "append" apos) [a] [] cpos) none pos.line X.env=pure false:=by rfl) :
  SS X (.Expr (.Call (.Attribute o "append" apos) [a] [] cpos) pos) (zFV i f):=
 yY (zBq (zGQ zV1 zWV zWW zBr ho (yD ha yy hs) hbase hfew hline hs hplain) hsw) λE σ H=>by
  rintro ⟨G0,H0,G,ρ,o,st,ef,k⟩
  obtain ⟨xs,e1,ef⟩:=zUs.mp ef
  split at ef
  ·rename_i hl
   obtain ⟨d,e2,rfl⟩:=zUt.mp ef
   have e1':=zOJ e1
   obtain ⟨a1,vs,q1,q2,q3,q4⟩:=st.er.own i xs e1'
   refine ⟨_,q1,.inl ⟨rfl,vs,SqL.of q3⟩,G,ρ,d,st.bs.gh,st.er,e2,λv G' H' t r=>?_⟩
   have st':=st.step t
   obtain ⟨a2,vs2,w1,w2,w3,w4⟩:=st'.er.own i xs e1'
   rw [q1] at w1;cases w1
   exact ⟨a1,vs2,v,rfl,rfl,w3,zU8 (by rw [<- w4.length];exact hl) (by decide),k σ G' _ (st'.mut e1' rfl rfl q1 (λys z=>by cases z;exact ⟨_,rfl,w4.append (Reps.cons r Reps.nil)⟩) λ_ z=>by cases z)⟩
  ·cases ef
def zME (i:Nat) (fi f:ROd):ROo:=λρ=>(f ρ).bind λd=>(gL ρ i).bind λxs=>(fi ρ).bind λdi=>match di with
 |.int n=>(ixN xs.length n).map λj=>.nx (ρ.set i (.l (xs.set j d)))
 |_=>none
theorem zOQ {ie:Expr} {fi:ROd} {tpos:Pos} (i:Nat) (ho:PE X o (zBG i)) (hi:SE X ie fi) (ha:SE X a f)
  (hg:∀ v,assign (.Subscript o ie tpos) X.env v=(do
   let ov <- holding [v] (eval o X.env)
   let iv <- holding [v,ov] (eval ie X.env)
   standAt tpos
   holding [v,ov,iv] (setItem ov iv v)
   release [v,ov,iv] []):=by intro _;rfl)
  (hs:swapsWithSole [.Subscript o ie tpos] a pos.line X.env=pure false:=by rfl) (hw:swappedStores [.Subscript o ie tpos] a X.env=pure none:=by rfl)
  (h1:(assignEach [.Subscript o ie tpos] X.env).map (·.2) = [assign (.Subscript o ie tpos) X.env]:=by rfl):SS X (.Assign [.Subscript o ie tpos] a pos) (zME i fi f):=
 yY (zLT ha (zPv ho hi zJc hg) hs hw h1) λE σ H=>by
  rintro ⟨G0,H0,G,ρ,o,st,ef,k⟩
  obtain ⟨d,e1,ef⟩:=zUs.mp ef
  obtain ⟨xs,e2,ef⟩:=zUs.mp ef
  obtain ⟨di,e3,ef⟩:=zUs.mp ef
  have e2':=zOJ e2
  cases di with
  |int n=>
   obtain ⟨j,e4,rfl⟩:=zUt.mp ef
   refine ⟨G,ρ,d,st.bs.gh,st.er,e1,λv G1 H1 t1 r1=>?_⟩
   obtain ⟨a1,vs,q1,q2,q3,q4⟩:=(st.step t1).er.own i xs e2'
   refine ⟨_,q1,G1,ρ,_,t1.s,st.er.step t1,e3,λv2 G2 H2 t2 r2=>?_⟩
   have st':=(st.step t1).step t2
   obtain ⟨a2,vs2,w1,w2,w3,w4⟩:=st'.er.own i xs e2'
   rw [q1] at w1;cases w1
   exact ⟨a1,vs2,n,j,rfl,yE.mp r2,w3,by rw [<- w4.length];exact e4,k σ G2 _ (st'.mut e2' rfl rfl q1 (λys z=>by cases z;exact ⟨_,rfl,w4.set j (Rep.mono t2.g _ _ r1)⟩) λ_ z=>by cases z)⟩
  |_=>cases ef
end
def Ite (K:Fg) (a:Addr):It:=
 ⟨λi H=>∃ xs x,SqL K H a xs/\xs[i]?=some x,λi H x H'=>∃ p y,H p=none/\x = .ref p/\H'=upd H p (.tup [.int i,y])/\∀ xs,SqL K H a xs->xs[i]?=some y,λi H=>∃ xs,SqL K H a xs/\xs.length<=i⟩
def zDb:Nat->List D->List D
 |_,[]=>[]
 |n,x::xs=>D.tup [.int (n:Int),x]::zDb (n+1) xs
theorem zEn:∀ (n:Nat) (xs:List D),(zDb n xs).length=xs.length
 |_,[]=>rfl
 |n,x::xs=>by simp [zDb,zEn (n+1) xs]
theorem zHk:∀ (n:Nat) (xs:List D) (i:Nat) (d:D),(zDb n xs)[i]?=some d->∃ x,xs[i]?=some x/\d=D.tup [.int ((n+i:Nat):Int),x]
 |_,[],_,_,h=>by simp [zDb] at h
 |n,x::xs,0,d,h=>by simp [zDb] at h;exact ⟨x,rfl,by simp [h.symm]⟩
 |n,x::xs,i+1,d,h=>by
  obtain ⟨y,e1,e2⟩:=zHk (n+1) xs i d (by simpa [zDb] using h)
  exact ⟨y,by simpa using e1,by rw [e2];congr 3;omega⟩
section
variable {P:Program} {w:World} {K:Fg}
theorem zMF {es:List Expr} {k:Nat} {tpos:Pos} (a e it:Addr) (hei:e≠it):zQo P w K (.Tuple es k tpos) (Ite K a) [e,it] e (λi h=>(∃ old,IsEnum h e it i old)/\h.IsListIter it a i) where
 mem:=by simp
 obj:=λi h st b hb=>by
  obtain ⟨⟨old,he⟩,o,ho,hc,hd⟩:=st
  rcases zU1.mp hb with rfl|hb
  ·exact ⟨_,he,λv z=>by cases z⟩
  ·have e1:b=it:=by simpa using hb
   subst e1
   exact ⟨o,ho,λv z=>by rw [hd] at z;cases z⟩
 keep:=λi h h' st hk=>by
  obtain ⟨⟨old,he⟩,o,ho,hc,hd⟩:=st
  exact ⟨⟨old,hk e (by simp) _ he⟩,o,hk it (by simp) o ho,hc,hd⟩
 item:=by
  intro X e1 e2 e3 hcalm i pins s σ H E I hf st go
  subst e1 e2 e3
  obtain ⟨⟨old,he⟩,hit⟩:=st
  obtain ⟨xs,x,hq,hx⟩:=go
  obtain ⟨its,vv,p,hz⟩:=I.list hq
  obtain ⟨u,hu,ru⟩:=vv.get hx
  have fe:=hf e (by simp)
  have fi:=hf it (by simp)
  have hne_e:∀ b o,H b=some o->b≠e:=λb o q z=>by rw [z,fe.1] at q;cases q
  have hne_i:∀ b o,H b=some o->b≠it:=λb o q z=>by rw [z,fi.1] at q;cases q
  refine wpAny_pyNext_enum_item he hit p.isList (by simpa using hu) hei λh' ho hit' hT hsz hk=>⟨_,rfl,?_⟩
  refine wpAny_letOwnedTupleGo_enum ho λh'' he'' hs''=>?_
  have hn:H s.heap.objs.size=none:=I.hok.fresh (zVA _)
  have hks:∀ b o,b≠e->b≠it->s.heap.get? b=some o->h''.get? b=some o:=λb o h1 h2 q=>(hs''.2 b h1).trans (hk b o h1 h2 q)
  have helt:e<s.heap.objs.size:=zVB he
  have hTe:s.heap.objs.size≠e:=zXS helt
  have hT'':h''.get? s.heap.objs.size=some { cls:=.type "tuple",data:=.seq #[.int i s.toks,u] }:=(hs''.2 _ hTe).trans hT
  have hne_T:∀ b o,H b=some o->b≠s.heap.objs.size:=λb o q z=>by rw [z,hn] at q;cases q
  have hilt:it<s.heap.objs.size:=by obtain ⟨o,q,_⟩:=hit;exact zVB q
  have fch:∀ b∈[e,it],(b∈X.ex\/X.s₀.heap.objs.size<=b)/\b≠X.env.locals/\(∀ x c,X.env.cells.lookup x=some c->c≠b)/\∀ p∈X.pn++pins,p.1≠b:=λb hb=>⟨(hf b hb).2.2.2.1,(hf b hb).2.1,(hf b hb).2.2.2.2.1,(hf b hb).2.2.2.2.2⟩
  have off:∀ b,b∉[e,it]->b≠e/\b≠it:=λb hb=>⟨λz=>hb (by simp [z]),λz=>hb (by simp [z])⟩
  have I':Inv X pins σ (upd H s.heap.objs.size (.tup [.int i,x])) { s with heap:=h'',toks:=s.toks+1 }:=by
   refine I.step (g':=s.gens) (d':=s.drawn) (ch:=[e,it]) fch (λb o _ _ hc q _=>hks b o (off b hc).1 (off b hc).2 q) (λb o _ _ hc q _=>⟨o.slots,hks b o (off b hc).1 (off b hc).2 q⟩)
    (λb o _ q n=>by rw [zJ (zVN (zVB q))];exact n) (λb o hc q=>⟨o,hks b o (off b hc).1 (off b hc).2 q⟩)
    (λb ys q=>by rw [zJ (hne_T b _ q)];exact q) (λb o' u' q=>by rw [zJ (hne_T b _ q)];exact q) (λb ps q=>⟨#[],by rw [zJ (hne_T b _ q),q];simp⟩)
    (λm hm=>?_) (λb u' q=>?_) I.bare
   ·obtain ⟨o,es',ep,ho',r⟩:=hm
    exact ⟨o,es',ep,hks _ o (Ne.symm fe.2.1) (Ne.symm fi.2.1) ho',r⟩
   ·by_cases hb:b=s.heap.objs.size
    ·subst hb
     rw [zN] at q;cases q
     exact ⟨by show 2<=sizeLine;decide,[.int i s.toks,u],.cons ⟨_,rfl⟩ (.cons ru .nil),⟨_,hT'',rfl,_,rfl,rfl⟩⟩
    ·rw [zJ hb] at q
     refine (I.hok b u' q).stay (λc v hc r=>?_) (λc r=>by rw [zJ (hne_T c _ r)];exact r) λc ys r=>by rw [zJ (hne_T c _ r)];exact r
     rcases hc with z|z
     ·subst z;exact hks c v (hne_e c _ q) (hne_i c _ q) r
     ·exact hks c v (hne_e c _ z) (hne_i c _ z) r
  refine ⟨.ref s.heap.objs.size,_,I',rfl,⟨s.heap.objs.size,x,hn,rfl,rfl,λys hy=>?_⟩,⟨⟨_,by simpa using he''⟩,?_⟩,λb hb=>?_⟩
  ·rw [<- I.list_inj hq hy];exact hx
  ·obtain ⟨o,q1,q2⟩:=hit'
   exact ⟨o,(hs''.2 it (Ne.symm hei)).trans q1,q2⟩
  ·have:b≠s.heap.objs.size:=by
    rcases zU1.mp hb with z|z
    ·rw [z];exact zVN helt
    ·have z':b=it:=by simpa using z
     rw [z'];exact zVN hilt
   rw [zJ this];exact (hf b hb).1
 done:=by
  intro X e1 e2 e3 hcalm i pins s σ H E I hf st stop
  subst e1 e2 e3
  obtain ⟨⟨old,he⟩,hit⟩:=st
  obtain ⟨xs,hq,hx⟩:=stop
  obtain ⟨its,vv,p,hz⟩:=I.list hq
  have fi:=hf it (by simp)
  refine wpAny_pyNext_enum_end (I.ok.hd hcalm) he hit p.isList (by simp;rw [<- vv.length];exact hx) λh' hk=>⟨rfl,?_⟩
  exact I.turned (t':=s.toks) (λb o hb q=>hk b o hb q) fi.1 fi.2.1 fi.2.2.2.1 fi.2.2.2.2.1 fi.2.2.2.2.2
 self:=λA i s Q E st h=>by
  obtain ⟨⟨old,he⟩,_⟩:=st
  exact wpAny_pyIter_enum he h
end
theorem zRQ {K:Fg} {G:Hp} {a:Addr} {vs:List V} {ds:List D} (h:SqL K G a vs) (r:Reps K G ds vs):zNs K G (Ite K a) (zDb 0 ds) where
 go:=λi H s hi=>by
  rw [zEn] at hi
  exact ⟨vs,vs[i]'(by rw [<- r.length];exact hi),s.seq h,by simp [<- r.length,hi]⟩
 stop:=λi H s hi=>by
  rw [zEn] at hi
  exact ⟨vs,s.seq h,by rw [<- r.length];exact hi⟩
 yld:=λi G1 H x H' s1 s hi y=>by
  obtain ⟨p,y,hp,rfl,rfl,hy⟩:=y
  refine ⟨_,zd.new s hp,λd e=>?_⟩
  obtain ⟨d',e1,rfl⟩:=zHk 0 ds i d e
  obtain ⟨v,e2,e3⟩:=r.get e1
  have:=hy vs ((s1.trans s).seq h)
  rw [e2] at this;cases this
  refine zBI.mpr ⟨p,_,rfl,zN,Reps.cons (yE.mpr (by simp)) (Reps.cons ?_ Reps.nil)⟩
  exact Rep.mono (yh (s.free hp)) _ _ (Rep.mono s1 _ _ e3)
section
variable {X:Cx} {a:Expr} {f:ROd} {es:List Expr} {k:Nat} {tpos p pos:Pos}
def iEn (f:ROd):ROl:=λρ=>(f ρ).bind λd=>match d with
 |.lst xs=>some (zDb 0 xs)
 |_=>none
theorem zIh (hg:Gl X "enumerate") (hm:X.mg "enumerate" = none) (ha:SE X a f) (hs:starEach [a] X.env=(false,eval a X.env)::starEach [] X.env:=by rfl) (hpl:(backTo pos (starEach [] X.env)).any (·.1)=false:=by rfl) :
  SI X (.Tuple es k tpos) (.Call (.Name "enumerate" p) [a] [] pos) (iEn f):=by
 rintro pins s σ H R I ⟨G,ρ,ds,sm,er,ef,kk⟩
 obtain ⟨d,e1,e2⟩:=zUs.mp ef
 cases d with
 |lst xs=>
  cases e2
  refine zWe (zFg I hg hm boot_enumerate ?_)
  refine zWL (thn (yD ha yy hs pos pins s σ H (λvs H'=>∃ G' v,vs = [v]/\zd G H G' H'/\Rep X.K G' (.lst xs) v) I ⟨G,ρ,_,sm,er,e1,λv G' H' t r=>⟨G',v,rfl,t,r⟩⟩) λus s1 ⟨vs,H1,I1,rv,G1,v,ev,t1,r1⟩=>?_) hs hpl
  subst ev
  obtain ⟨u,rfl,ru⟩:=zDT rv
  obtain ⟨l,vs,rfl,q,w⟩:=zAL.mp r1
  cases ru
  obtain ⟨its,vv,pl,hz⟩:=I1.list (t1.s.seq q)
  refine call_enumerate_list pl.isList λh' he hit hsz hk=>?_
  refine wpAny_pyIter_enum he ?_
  have hlt:=λb o (e:s1.heap.get? b=some o)=>hk b o e
  have I2:Inv X pins σ H1 { s1 with heap:=h' }:=I1.kept (t':=s1.toks) hk
  have n1:H1 s1.heap.objs.size=none:=I1.hok.fresh (zVA _)
  have n2:H1 (s1.heap.objs.size+1)=none:=I1.hok.fresh (zW4 _)
  refine ⟨s1.heap.objs.size+1,[s1.heap.objs.size+1,s1.heap.objs.size],_,_,H1,rfl,I2,zMF l (s1.heap.objs.size+1) s1.heap.objs.size (Nat.succ_ne_self _),⟨⟨_,he⟩,hit⟩,λb hb=>?_,kk _ G1 H1 t1 (zRQ q w)⟩
  rcases zU1.mp hb with z|z
  ·rw [z];exact I1.fpOk (zW4 _) n2
  ·have z':b=s1.heap.objs.size:=by simpa using z
   rw [z'];exact I1.fpOk (zVA _) n1
 |_=>cases e2
end
theorem zAO:bootBuiltins "tuple" = some (.type "tuple"):=by decide +kernel
theorem zOR:bootBuiltins "int" = some (.type "int"):=by decide +kernel
theorem zTl:bootBuiltins "list" = some (.type "list"):=by decide +kernel
theorem zTm:bootBuiltins "dict" = some (.type "dict"):=by decide +kernel
theorem zEG:bootBuiltins "sorted" = some (.builtin "sorted"):=by decide +kernel
theorem b_all:bootBuiltins "all" = some (.builtin "all"):=by decide +kernel
theorem b_any:bootBuiltins "any" = some (.builtin "any"):=by decide +kernel
theorem zTn:bootBuiltins "bool" = some (.type "bool"):=by decide +kernel
theorem zHl:bootBuiltins "isinstance" = some (.builtin "isinstance"):=by decide +kernel
structure Bl (mg:MGt):Prop where
 len:mg "len" = none
 range:mg "range" = none
 enumerate:mg "enumerate" = none
 sorted:mg "sorted" = none
 tuple:mg "tuple" = none
 list:mg "list" = none
 int:mg "int" = none
 dict:mg "dict" = none
 isinstance:mg "isinstance" = none
 all:mg "all" = none
 any:mg "any" = none
 str:mg "str" = none
 bool:mg "bool" = none
theorem gl {X:Cx} {x:Str} (h:X.env.kindOf x=some .globalImplicit):Gl X x:=h
theorem zHG {k:Nat} {A:Around} (hr:zAB k A):A.units+30<cLine:=by have:=hr.un;omega
structure yA (P:Program) (w:World) (K:Fg) (mg:MGt) (base:Heap) (k:Nat) (x:Str) (n:Nat) (F:List D->Option D):Prop where
 ex:∃ f fd ps,zCe P w K mg base CX0 k f fd ps (spD K F n)/\mg x=some (.ref f)/\PySem.W.keepIn K (.ref f)=true/\L2.zAx K fd ps []
section
variable {X:Cx} {e:Expr} {es:List Expr} {fl:ROl} {pos:Pos}
theorem zM {k n:Nat} {F:List D->Option D} {x:Str} {p:Pos} (h:yA X.prog X.w X.K X.mg X.base k x n F) (hr:zAB k X.A) (hg:X.env.kindOf x=some .globalImplicit)
  (hn:(e::es).length=n) (ha:SA X (e::es) fl) (hdb:(x == ("__debug__" : Str))=false:=by decide) (he:starEach (e::es) X.env=(false,eval e X.env)::starEach es X.env:=by rfl)
  (hpl:(backTo pos (starEach es X.env)).any (·.1)=false:=by rfl):SE X (.Call (.Name x p) (e::es) [] pos) (λρ=>(fl ρ).bind F):=by
 obtain ⟨f,fd,ps,FO,hm,hk,hb⟩:=h.ex
 exact zRI FO hr hg hm hk hb hn ha hdb he hpl
end
theorem qP {P:Program} {w:World} {K:Fg} {mg:MGt} {base:Heap} {x qual:Str} {st:Stmt} {fa:Addr} {fd:FuncData} {N ps:List Str} {k:Nat} {F:ROo} {f:List D->Option D}
  (FF:Fun K x qual st fa fd) (hm:mg x=some (.ref fa)) (hb:L2.zAx K fd ps []) (S:zV N ps (zI st))
  (hbody:∀ (cdv:Value) (A:Around) (outer:List Env) (s:Shared) (H:Hp),zAB k (A.deeper (envOfC qual (zI st) s.heap.objs.size fa cdv))->SSs (zFS CX0 P w K mg base N qual (zI st) fa cdv A outer s H E0).nox (z8 st) F)
  (hf:∀ ds d,ds.length=ps.length->f ds=some d->zDY N F ds=some d):yA P w K mg base (k+1) x ps.length f:=
 ⟨fa,fd,ps,zTg FF S hbody hf,hm,FF.kp,hb⟩
theorem yi {N nm:List Str} (h:decide (zHe N nm).Nodup=true):(zHe N nm).Nodup:=of_decide_eq_true h
end RD
namespace PySem
open PySem.Spec PyProof.Rows
theorem zMG:typeLookup (.type "tuple") "keys" = pure none:=am_miss_of_fast (by decide +kernel)
set_option maxHeartbeats 1000000 in
theorem zCi {prog:Program} {w:World} {A:Around} {E:VSt} {s:Shared} {a:Addr} {o:Obj} {xs:Array Value} {k:Nat} {name:Str} {Q:Option Value->Shared->Prop}
  (hx:s.heap.get? a=some o) (hc:o.cls = .type "tuple") (hdat:o.data = .seq xs k) (hd:o.dict=none) (hmiss:typeLookup (.type "tuple") name=pure none) (hname:(["__module__","__name__","__qualname__","__doc__","__annotations__"]:List Str).contains name=false) (hA:A.handled=none)
  (h:∀ h' tk,(∀ b ob,s.heap.get? b=some ob->h'.get? b=some ob)->Q none { s with heap:=h',toks:=tk }) (hsz:name.length+100<=sizeLine:=by size_fits) :
  wpAny (model prog w) A (getAttr? (.ref a) name) Q E s:=by
 obtain ⟨c,dct,dat,sl⟩:=o
 simp only at hc hdat hd
 subst hc hdat hd
 obtain ⟨hp,g,d,tk,os⟩:=s
 have hT:∀ tk',(⟨hp,g,d,tk',os⟩:Shared).TypeIs (.ref a) "tuple":=λ_=>⟨_,hx,rfl⟩
 have f1:=sub_AttributeError
 have f3:=F.slot_tuple_getattribute.lookup
 have f4:=F.slot_tuple_getattribute.bind (.ref a)
 have f5:=am_tuple_getattr_none
 unfold getAttr? getAttrBy? getAttrBy
 repeat (any_goals (first|assumption|exact hT _|((with_reducible show wpAny _ _ (call (Value.builtin "tuple.__getattribute__") _ _) _ _ _);refine call_meets F.slot_tuple_getattribute (hT _) am_entry_tuple_getattribute (F.args_tuple_getattribute_2 _ _) (meets_getattribute_miss_tuple a xs k sl name _ hmiss hname hsz) ⟨hx,hA,λh' tk' e hx'=>?_⟩)|wp_step))
 obtain ⟨t',u',he⟩:=hx'.there
 show wpAny _ _ (getattributeRaised _ _ _ _ _ _ _) _ _ _
 unfold getattributeRaised
 repeat (any_goals (first|assumption|wp_step))
 exact h _ _ hx'.keeps
end PySem
namespace PySem
open PySem.Spec PyProof.Rows
namespace F
theorem entry_dict_update_loop:entryFor table "dict.update.loop" = some Builtin.«dict.update.loop»:=entryFor_of_tree (by kernel_rfl)
theorem plain_dict_update_loop:plainId "dict.update.loop" = true:=by decide +kernel
end F
section
variable {prog:Program} {w:World} {K:Type} [DecidableEq K] {knd:KeyKind prog w K} {A:Around} {R:Result->Shared->Prop}
theorem zD8 (hA:A.handled=none) {d it a:Addr} {items:Array Value} (hda:d≠a) (hdi:d≠it) (hai:a≠it) (ps:List (K×Value))
  (hl:ps.length=items.size) :
  ∀ (n i:Nat) (s:Shared) (kvs:List (K×Value)),items.size-i=n->i<=items.size->s.heap.IsTupleIter it a i->s.heap.IsTuple a items->s.heap.DictOf knd d kvs->kvs.length<=i ->
   (∀ j (hj:j<items.size),i<=j->∃ b key,items[j] = .ref b/\b≠d/\b≠it/\s.heap.IsTuple b #[key,(ps[j]'(by omega)).2]/\knd.is (ps[j]'(by omega)).1 key=true)->items.size<=1000 ->
   (∀ h' tk,h'.DictOf knd d ((ps.drop i).foldl (λacc p=>stored acc p.1 p.2) kvs)->(∀ b o,b≠d->b≠it->s.heap.get? b=some o->h'.get? b=some o)->R (.ok (.ret .none)) { s with heap:=h',toks:=tk }) ->
   codeAny (model prog w) A (.builtin "dict.update.loop" ⟨[.ref d,.ref it,rawInt i,.none],[]⟩) R s:=by
 intro n
 induction n with
 |zero=>
  intro i s kvs hk hi hit ht hd hlk hps hsz hR
  have hin:i=items.size:=by omega
  subst hin
  refine codeAny_builtin F.entry_dict_update_loop ?_
  rw [Around.under_plainId F.plain_dict_update_loop _]
  show wpAny _ A.in1 (pyNext (.ref it) >>= _) _ _ s
  refine zUz (wpAny_pyNext_tuple_end hA hit ht (by simp) λh' hk'=>?_)
  show wpAny _ A.in1 (Builtin.Dict.addKeywords d [] >>= λ_=>ret Value.none) _ _ _
  refine zUz (zU6 (zU6 ?_))
  have e:ps.drop items.size = []:=by rw [<- hl];exact List.drop_length
  rw [e] at hR
  refine hR h' s.toks ?_ λb o h1 h2 q=>hk' b o h2 q
  obtain ⟨o,es,ep,ho,rest⟩:=hd
  exact ⟨o,es,ep,hk' d o hdi ho,rest⟩
 |succ n ih=>
  intro i s kvs hk hi hit ht hd hlk hps hsz hR
  have hlt:i<items.size:=by omega
  have hlp:i<ps.length:=by omega
  obtain ⟨b,key,hb1,hb2,hb3,hb4,hb5⟩:=hps i hlt (zVA _)
  refine codeAny_builtin F.entry_dict_update_loop ?_
  rw [Around.under_plainId F.plain_dict_update_loop _]
  show wpAny _ A.in1 (pyNext (.ref it) >>= _) _ _ s
  refine zUz (wpAny_pyNext_tuple_item hit ht (x:=.ref b) (by rw [<- hb1];simp [hlt]) λh₁ hit₁ hs₁=>?_)
  have hb₁:h₁.IsTuple b #[key,(ps[i]'hlp).2]:=by
   obtain ⟨o,q,r⟩:=hb4
   exact ⟨o,(hs₁.2 b hb3).trans q,r⟩
  have hd₁:h₁.DictOf knd d kvs:=by
   obtain ⟨o,es,ep,ho,rest⟩:=hd
   exact ⟨o,es,ep,(hs₁.2 d hdi).trans ho,rest⟩
  have hT:(⟨h₁,s.gens,s.drawn,s.toks,s.os⟩:Shared).TypeIs (.ref b) "tuple":=by
   obtain ⟨o,q,c,_⟩:=hb₁
   exact ⟨o,q,c⟩
  obtain ⟨ob,qb,cb,nb,db⟩:=id hb₁
  show wpAny _ A.in1 (holding [Value.ref b] _ >>= _) _ _ _
  refine zUz (zWQ ?_)
  refine zUz ?_
  have h6:wpAny (model prog w) A.in1 (Builtin.Dict.pairItems (.ref b)) (λl s'=>l = [key,(ps[i]'hlp).2]/\s'=⟨h₁,s.gens,s.drawn,s.toks,s.os⟩) (λ_ _=>False) ⟨h₁,s.gens,s.drawn,s.toks,s.os⟩:=by
   unfold Builtin.Dict.pairItems
   refine zUz (zWu hT ?_)
   rw [zVE (by decide)]
   refine zUz (wpAny_seqItems qb db (zU6 ⟨by simp,rfl⟩))
  refine wpAny_tryCatch (zVk h6 (λl s' hl'=>?_) λ_ _ z=>z.elim)
  obtain ⟨rfl,rfl⟩:=hl'
  show wpAny _ _ (holding [key,(ps[i]'hlp).2] (dictSet d key (ps[i]'hlp).2)) _ _ _
  refine zWQ (wpAny_dictSet_pairs (hsz:=zVb (show kvs.length<=1000 by omega) (by decide)) hb5 hd₁ λh₂ hd₂ hs₂=>?_)
  refine zU6 ⟨plainId_quiet F.plain_dict_update_loop _,?_⟩
  have hit₂:h₂.IsTupleIter it a (i+1):=by
   obtain ⟨o,q,r⟩:=hit₁
   exact ⟨o,(hs₂.2 it (Ne.symm hdi)).trans q,r⟩
  have kp:∀ b o,b≠d->b≠it->s.heap.get? b=some o->h₂.get? b=some o:=λb o q1 q2 q3=>(hs₂.2 b q1).trans ((hs₁.2 b q2).trans q3)
  have ht₂:h₂.IsTuple a items:=by
   obtain ⟨o,q,r⟩:=ht
   exact ⟨o,kp a o (Ne.symm hda) hai q,r⟩
  have hlen:(stored kvs (ps[i]'hlp).1 (ps[i]'hlp).2).length<=i+1:=by
   unfold stored
   split
   ·rw [zU4];omega
   ·rw [zU9];simp;omega
  have:=ih (i+1) ⟨h₂,s.gens,s.drawn,s.toks+1,s.os⟩ (stored kvs (ps[i]'hlp).1 (ps[i]'hlp).2) (by omega) hlt hit₂ ht₂ hd₂ hlen (λj hj hij=>by
   obtain ⟨b',key',c1,c2,c3,⟨o',c4,c5⟩,c6⟩:=hps j hj (by omega)
   exact ⟨b',key',c1,c2,c3,⟨o',kp b' o' c2 c3 c4,c5⟩,c6⟩) hsz (λh' tk hd' hk'=>by
   have e:ps.drop i=ps[i]'hlp::ps.drop (i+1):=zWR hlp
   rw [e,zWg] at hR
   exact hR h' tk hd' λb o q1 q2 q3=>hk' b o q1 q2 (kp b o q1 q2 q3))
  have e2:((i+1:Nat):Int)=(i:Int)+1:=by push_cast;rfl
  rw [e2] at this
  exact this
end
end PySem
namespace RD
open PySem PySem.Spec PyProof.Rows L2
def zFs:D->Option Key
 |.int i=>some (.inl i)
 |.str x=>some (.inr x)
 |_=>none
def zFt:List D->Option (List (Key×D))
 | []=>some []
 |.tup [k,v]::r=>(zFs k).bind λk'=>(zFt r).map ((k',v) :: ·)
 |_=>none
def zKo (kvs:List (Key×D)) (k:Key) (v:D):List (Key×D):=if (kvs.any λkv=>decide (kv.1=k))=true then kvs.map (λkv=>if kv.1=k then (kv.1,v) else kv) else kvs ++ [(k,v)]
def zC2 (kvs:List (Key×D)) (k:Key):Option D:=(kvs.find? λkv=>decide (kv.1=k)).map (·.2)
def zHm:D->Option (List (Key×D))
 |.tup xs=>if xs.length<=1000 then (zFt xs).map λps=>ps.foldl (λacc p=>zKo acc p.1 p.2) [] else none
 |_=>none
section
variable {K:Fg} {G:Hp}
theorem zC3:zAu K G [] []:=⟨rfl,Reps.nil⟩
theorem zBu {k:Key} {d:D} {v:V} {kvs:List (Key×D)} {ws:List (Key×V)} (r:Rep K G d v) (h:zAu K G kvs ws):zAu K G ((k,d)::kvs) ((k,v)::ws):=⟨by simp [h.1],Reps.cons r h.2⟩
theorem zC4 {p:Key×D} {kvs:List (Key×D)} {ws:List (Key×V)} (h:zAu K G (p::kvs) ws):∃ v r,ws=(p.1,v)::r/\Rep K G p.2 v/\zAu K G kvs r:=by
 obtain ⟨h1,h2⟩:=h
 cases ws with
 |nil=>simp at h1
 |cons q ws=>
  obtain ⟨k,v⟩:=q
  simp only [zUx,zV9] at h1
  obtain ⟨e1,e2⟩:=h1
  obtain ⟨r1,r2⟩:=Reps.inv h2
  exact ⟨v,ws,by simp [e1],r1,e2,r2⟩
theorem zAu.length {kvs:List (Key×D)} {ws:List (Key×V)} (h:zAu K G kvs ws):kvs.length=ws.length:=by
 have:=zVw List.length h.1
 simpa using this
theorem zAu.any {k:Key}:∀ {kvs:List (Key×D)} {ws:List (Key×V)},zAu K G kvs ws->(kvs.any λkv=>decide (kv.1=k))=ws.any λkv=>decide (kv.1=k)
 |[],ws,h=>by
  have:=h.length
  cases ws with
  |nil=>rfl
  |cons _ _=>simp at this
 |p::kvs,ws,h=>by
  obtain ⟨v,r,rfl,_,h2⟩:=zC4 h
  rw [zWO,zWO,zAu.any h2]
theorem zAu.snoc {k:Key} {d:D} {v:V} (r:Rep K G d v):∀ {kvs:List (Key×D)} {ws:List (Key×V)},zAu K G kvs ws->zAu K G (kvs ++ [(k,d)]) (ws ++ [(k,v)])
 |[],ws,h=>by
  have:=h.length
  cases ws with
  |nil=>exact zBu r zC3
  |cons _ _=>simp at this
 |p::kvs,ws,h=>by
  obtain ⟨v',r',rfl,h1,h2⟩:=zC4 h
  exact zBu (k:=p.1) h1 (zAu.snoc r h2)
theorem zAu.repl {k:Key} {d:D} {v:V} (r:Rep K G d v):∀ {kvs:List (Key×D)} {ws:List (Key×V)},zAu K G kvs ws->zAu K G (kvs.map λkv=>if kv.1=k then (kv.1,d) else kv) (ws.map λkv=>if kv.1=k then (kv.1,v) else kv)
 |[],ws,h=>by
  have:=h.length
  cases ws with
  |nil=>exact zC3
  |cons _ _=>simp at this
 |p::kvs,ws,h=>by
  obtain ⟨v',r',rfl,h1,h2⟩:=zC4 h
  rw [zUx,zUx]
  by_cases e:p.1=k
  ·rw [zVE e,zVE e];exact zBu r (zAu.repl r h2)
  ·rw [zVe e,zVe e];exact zBu (k:=p.1) h1 (zAu.repl r h2)
theorem zAu.put {k:Key} {d:D} {v:V} (r:Rep K G d v) {kvs:List (Key×D)} {ws:List (Key×V)} (h:zAu K G kvs ws):zAu K G (zKo kvs k d) (zCQ ws k v):=by
 unfold zKo zCQ
 rw [h.any]
 split
 ·exact h.repl r
 ·exact h.snoc r
theorem zAu.get {k:Key}:∀ {kvs:List (Key×D)} {ws:List (Key×V)},zAu K G kvs ws->(zC2 kvs k=none/\zAm ws k=none)\/∃ d v,zC2 kvs k=some d/\zAm ws k=some v/\Rep K G d v
 |[],ws,h=>by
  have:=h.length
  cases ws with
  |nil=>exact .inl ⟨rfl,rfl⟩
  |cons _ _=>simp at this
 |p::kvs,ws,h=>by
  obtain ⟨v',r',rfl,h1,h2⟩:=zC4 h
  by_cases e:p.1=k
  ·exact .inr ⟨p.2,v',by simp [zC2,zVU,e],zEA e,h1⟩
  ·rcases zAu.get (k:=k) h2 with ⟨a,b⟩|⟨d,v,a,b,c⟩
   ·exact .inl ⟨by simpa [zC2,zVU,e] using a,by rw [zCs e];exact b⟩
   ·exact .inr ⟨d,v,by simpa [zC2,zVU,e] using a,by rw [zCs e];exact b,c⟩
theorem zAu.fold {ps:List (Key×D)}:∀ {ws:List (Key×V)} {kvs:List (Key×D)} {us:List (Key×V)},zAu K G ps ws->zAu K G kvs us->zAu K G (ps.foldl (λacc p=>zKo acc p.1 p.2) kvs) (ws.foldl (λacc p=>zCQ acc p.1 p.2) us):=by
 induction ps with
 |nil=>
  intro ws kvs us h h'
  have:=h.length
  cases ws with
  |nil=>exact h'
  |cons _ _=>simp at this
 |cons p ps ih=>
  intro ws kvs us h h'
  obtain ⟨v',r',rfl,h1,h2⟩:=zC4 h
  show zAu K G (ps.foldl _ (zKo kvs p.1 p.2)) (r'.foldl _ (zCQ us p.1 v'))
  exact ih (ws:=r') h2 (h'.put h1)
end
theorem zRR {ws:List (Key×V)}:∀ {qs:List (Key×Value)} {us:List (Key×V)} {vs:List (Key×Value)},KV ws qs->KV us vs->KV (ws.foldl (λacc p=>zCQ acc p.1 p.2) us) (qs.foldl (λacc p=>stored acc p.1 p.2) vs):=by
 induction ws with
 |nil=>intro qs us vs h h';cases h;exact h'
 |cons p ps ih=>
  intro qs us vs h h'
  cases h with
  |cons h1 h2=>
   obtain ⟨e,r⟩:=h1
   rw [zWg,zWg,<- e]
   exact ih h2 (h'.put p.1 r)
theorem zOS {ws:List (Key×V)}:∀ {us:List (Key×V)},(ws.foldl (λacc p=>zCQ acc p.1 p.2) us).length<=us.length+ws.length:=by
 induction ws with
 |nil=>intro us;simp
 |cons p ps ih=>
  intro us
  rw [zWg]
  have h1:=ih (us:=zCQ us p.1 p.2)
  have h2:=zAJ us p.1 p.2
  simp only [zUv]
  omega
section
variable {X:Cx}
theorem zBv {K:Fg} {G:Hp} {d:D} {k:Key} {v:V} (h:zFs d=some k) (r:Rep K G d v):v=kV k:=by
 cases d with
 |int i=>cases h;exact yE.mp r
 |str x=>cases h;exact zAK.mp r
 |_=>cases h
theorem zFu {pins:PNt} {σ:L2.St} {G H:Hp} {s:Shared} (I:Inv X pins σ H s) (sm:zf G H):∀ {xs:List D} {vs:List V} {its:List Value} {ps:List (Key×D)},zFt xs=some ps->Reps X.K G xs vs->yN vs its ->
  ∃ (ws:List (Key×V)) (qs:List (Key×Value)),zAu X.K G ps ws/\KV ws qs/\qs.length=its.length /\
   ∀ j (hj:j<its.length) (hq:j<qs.length),∃ b key,its[j] = .ref b/\s.heap.IsTuple b #[key,qs[j].2]/\(z6 X.prog X.w).is qs[j].1 key=true
 |[],vs,its,ps,h,r,q=>by
  cases h
  have:=yP.mp r
  subst this
  cases q
  exact ⟨[],[],zC3,.nil,rfl,λj hj=>by simp at hj⟩
 |d::xs,vs,its,ps,h,r,q=>by
  unfold zFt at h
  split at h
  ·cases ‹_ = []›
  ·rename_i k v r' heq
   cases heq
   obtain ⟨k',e1,h⟩:=zUs.mp h
   obtain ⟨ps',e2,rfl⟩:=zUt.mp h
   obtain ⟨v0,vs',rfl,r1,r2⟩:=za.mp r
   cases q with
   |cons q1 q2=>
    rename_i u0 us0
    obtain ⟨ws,qs,a1,a2,a3,a4⟩:=zFu I sm e2 r2 q2
    obtain ⟨b,vb,rfl,sb,rb⟩:=zCf r1
    cases q1
    obtain ⟨w1,t1,rfl,rk,t2⟩:=za.mp rb
    obtain ⟨w2,t3,rfl,rv,t4⟩:=za.mp t2
    have:=yP.mp t4
    subst this
    have ek:=zBv e1 rk
    subst ek
    obtain ⟨itb,vb,tb,_⟩:=I.tuple (qL sm sb)
    obtain ⟨u1,u2,rfl,p1,p2⟩:=zTI vb
    refine ⟨(k',w2)::ws,(k',u2)::qs,zBu rv a1,.cons ⟨rfl,p2⟩ a2,by simp [a3],λj hj hq=>?_⟩
    cases j with
    |zero=>exact ⟨b,u1,rfl,tb,zGS p1⟩
    |succ j=>exact a4 j (by simpa using hj) (by simpa using hq)
  ·cases h
def cFD (K:Fg) (op:D->Option (List (Key×D))):List V->Hp->VK->Prop:=λxs H Q=>∃ G d1 kvs x,xs = [x]/\zf G H/\zCE K G H d1 x/\op d1=some kvs /\
 ∀ a ws G' H',zd G H G' H'->H a=none->G' a=none->H' a=some (.dK ws)->zAu K G' kvs ws->Q (.ref a) H'
theorem zKp (hcalm:X.calm=true):zAl X (.type "dict") (cFD X.K zHm):=by
 intro pins s σ H xs us Q I r h
 obtain ⟨G,d1,kvs,x,rfl,sm,r1,e,k⟩:=h
 obtain ⟨u,rfl,ru⟩:=zDT r
 cases d1 with
 |tup zs=>
  simp only [zHm] at e
  split at e
  ·rename_i hl
   obtain ⟨ps,e1,rfl⟩:=zUt.mp e
   obtain ⟨a,vs,rfl,q,w⟩:=r1.tup sm
   cases ru
   obtain ⟨its,vv,tn,hz⟩:=I.tupleN q
   obtain ⟨ws,qs,a1,a2,a3,a4⟩:=zFu I sm e1 w vv
   have l1:=w.length
   have l2:=vv.length
   have hnD:H s.heap.objs.size=none:=I.hok.fresh (zVA _)
   refine callType_codes (Q₁:=λobj s₁=>obj = .ref s.heap.objs.size/\s₁={ s with heap:=s.heap.push { cls:=.type "dict",data:=.dict #[] } }) F.kt_called_dict (F.kt_typeCall_dict_1 _) F.entry_dict_init (kt_code_dict_new _ ⟨rfl,rfl⟩) ?_
   rintro obj s₁ ⟨rfl,rfl⟩
   have hnew:(s.heap.push { cls:=.type "dict",data:=.dict #[] }).DictOf (z6 X.prog X.w) s.heap.objs.size []:=Heap.DictOf.new s.heap
   have alt:a<s.heap.objs.size:=tn.lt
   have tn1:zAw (s.heap.push { cls:=.type "dict",data:=.dict #[] }) a its.toArray:=by
    obtain ⟨o,q1,q2⟩:=tn
    exact ⟨o,zU5 _ q1,q2⟩
   have sz1:(s.heap.push { cls:=.type "dict",data:=.dict #[] }).objs.size=s.heap.objs.size+1:=zW8 ..
   refine ⟨hnew.typeIs,F.args_dict_init_2 _ _,?_⟩
   unfold Builtin.«dict.__init__»
   refine zUz ?_
   unfold Builtin.Dict.selfAndRest
   refine zUz (wpAny_notOrdered_dict hnew.typeIs ?_)
   show wpAny _ _ (pure (s.heap.objs.size,[Value.ref a])) _ _ _
   refine zU6 ?_
   show wpAny _ _ (Builtin.Dict.updateFrom "dict.__init__" s.heap.objs.size (.ref a) [] .none) _ _ _
   unfold Builtin.Dict.updateFrom
   refine zUz (zWu (T:="tuple") tn1.tup.typeIs ?_)
   rw [zVE (by decide)]
   obtain ⟨o,ho,hc,n,hd,hdict⟩:=id tn1
   refine zUz (zCi ho hc hd hdict zMG (by decide +kernel) (I.ok.hd hcalm) (λh₂ tk₂ k₂=>?_) (by decide))
   show wpAny _ _ (rule _ >>= _) _ _ _
   refine zUz (wpAny_rule ?_)
   have tn2:zAw h₂ a its.toArray:=⟨o,k₂ a o ho,hc,n,hd,hdict⟩
   refine zUz (wpAny_pyIter_tuple (show h₂.IsTuple a its.toArray from tn2.tup) ?_)
   have lt2:s.heap.objs.size<h₂.objs.size:=by
    have q1:(s.heap.push { cls:=.type "dict",data:=.dict #[] }).get? s.heap.objs.size=some { cls:=.type "dict",data:=.dict #[] }:=zVO _ rfl
    exact zVB (k₂ _ _ q1)
   have kp:∀ b ob,s.heap.get? b=some ob->(h₂.push { cls:=.type "tuple_iterator",data:=.fields #[.ref a,.int 0 0] }).get? b=some ob:=λb ob q=>zU5 _ (k₂ b ob (zU5 _ q))
   have kD:(h₂.push { cls:=.type "tuple_iterator",data:=.fields #[.ref a,.int 0 0] }).DictOf (z6 X.prog X.w) s.heap.objs.size []:=by
    obtain ⟨od,es,ep,q1,q2⟩:=hnew
    exact ⟨od,es,ep,zU5 _ (k₂ _ _ q1),q2⟩
   have tn3:(h₂.push { cls:=.type "tuple_iterator",data:=.fields #[.ref a,.int 0 0] }).IsTuple a its.toArray:=⟨o,zU5 _ (k₂ a o ho),hc,n,hd⟩
   refine zU6 ⟨plainId_quiet F.plain_dict_update_loop _,?_⟩
   refine zD8 (A:=X.A.in1) (knd:=z6 X.prog X.w) (a:=a) (items:=its.toArray) (I.ok.hd hcalm) (zXS alt) (zVN lt2) (zVN (Nat.lt_trans alt lt2)) qs (by rw [a3];simp) _ 0 ⟨h₂.push { cls:=.type "tuple_iterator",data:=.fields #[.ref a,.int 0 0] },s.gens,s.drawn,tk₂,s.os⟩ [] rfl (zWS _) ⟨_,zVO _ rfl,rfl,rfl⟩ tn3 kD (zVA _) (λj hj _=>?_) (by rw [zU3,<- l2,<- l1];exact hl) λh' tk hd' hk'=>?_
   ·obtain ⟨b,key,b1,b2,b3⟩:=a4 j (by simpa using hj) (by rw [a3];simpa using hj)
    obtain ⟨ob,q1,q2⟩:=b2
    have blt:=zVB q1
    exact ⟨b,key,by simpa using b1,zVN blt,zVN (Nat.lt_trans blt lt2),⟨ob,kp b ob q1,q2⟩,b3⟩
   ·have kp':∀ b ob,s.heap.get? b=some ob->h'.get? b=some ob:=λb ob q=>hk' b ob (zVN (zVB q)) (zVN (Nat.lt_trans (zVB q) lt2)) (kp b ob q)
    rw [List.drop_zero] at hd'
    have hlen:(ws.foldl (λacc p=>zCQ acc p.1 p.2) []).length<=sizeLine:=by
     have q1:=zOS (ws:=ws) (us:=[])
     have q2:=zWl a2
     simp only [zVC] at q1
     exact zAc (by omega)
    have new:qo X.prog X.w (upd H s.heap.objs.size (.dK (ws.foldl (λacc p=>zCQ acc p.1 p.2) []))) h' s.heap.objs.size (.dK (ws.foldl (λacc p=>zCQ acc p.1 p.2) [])):=
     ⟨hlen,zVd.mpr (Ne.symm (zVN I.big)),_,zRR a2 .nil,hd'⟩
    exact ⟨rfl,⟨.ref s.heap.objs.size,_,I.laid (t':=tk) kp' (zVA _) new,rfl,k _ _ G _ (zd.newH sm hnD) hnD (sm.free hnD) zN (zAu.fold a1 zC3)⟩⟩
  ·cases e
 |_=>cases e
variable {a e:Expr} {f:ROd} {i:Nat} {x:Str} {pos pos' p1:Pos}
def tFD (K:Fg) (f:Rho->Option (List (Key×D))):TE:=λσ H Q=>∃ G ρ kvs,zf G H/\Er K G H ρ σ/\f ρ=some kvs /\
 ∀ a ws G' H',zd G H G' H'->H a=none->G' a=none->H' a=some (.dK ws)->zAu K G' kvs ws->Q (.ref a) H'
def zOT (i:Nat) (f:Rho->Option (List (Key×D))):ROo:=λρ=>(f ρ).map λd=>.nx (ρ.set i (.m d))
theorem zRS {fm:Rho->Option (List (Key×D))} (i:Nat) (he:PE X e (tFD X.K fm)) (hN:X.N.Nodup) (hi:X.N[i]?=some x) (hx:Loc X.env.scope x) (hs:swapsWith e (some (.Name x pos')) pos.line X.env=pure false:=by rfl)
  (hf:X.fn x=true\/X.env.scope.names.lookup x=some .local:=by first|exact .inl rfl|exact .inr rfl|assumption):SS X (.Assign [.Name x pos'] e pos) (zOT i fm):=
 yY (zDw hN hi hx he hs hf) λQ σ H=>by
  rintro ⟨G0,H0,G,ρ,o,st,ef,k⟩
  obtain ⟨d,e1,rfl⟩:=zUt.mp ef
  refine ⟨G,ρ,d,st.bs.gh,st.er,e1,λa vs G' H' t h1 h2 h3 r=>k _ G' H' (st.setOwn t rfl h1 h2 (λ_ z=>by cases z) λxs z=>?_)⟩
  cases z;exact ⟨vs,h3,r⟩
def zS (i:Nat) (f:ROd):ROo:=zOT i λρ=>(f ρ).bind zHm
def zOU (i:Nat):ROo:=zOT i λ_=>some []
theorem zFv (i:Nat) (hN:X.N.Nodup) (hi:X.N[i]?=some x) (hx:Loc X.env.scope x) (hs:swapsWith (.Dict [] [] p1) (some (.Name x pos')) pos.line X.env=pure false:=by rfl)
  (hf:X.fn x=true\/X.env.scope.names.lookup x=some .local:=by first|exact .inl rfl|exact .inr rfl|assumption):SS X (.Assign [.Name x pos'] (.Dict [] [] p1) pos) (zOU i):=
 zRS i (zAy zJf λσ H Q=>by rintro ⟨G,ρ,kvs,sm,er,ef,k⟩;cases ef;exact λp hp=>k p [] G _ (zd.newH sm hp) hp (sm.free hp) zN zC3) hN hi hx hs hf
def gM (ρ:Rho) (i:Nat):Option (List (Key×D)):=match ρ[i]? with
 |some (.m kvs)=>some kvs
 |_=>none
theorem zRT {ρ:Rho} {i:Nat} {xs:List (Key×D)} (h:gM ρ i=some xs):ρ[i]?=some (.m xs):=by
 unfold gM at h
 split at h
 ·cases h;assumption
 ·cases h
def dIn (neg:Bool) (i:Nat) (f:ROd):ROb:=λρ=>(f ρ).bind λd=>(gM ρ i).bind λkvs=>(zFs d).map λk=>if neg then !(zC2 kvs k).isSome else (zC2 kvs k).isSome
theorem zRU {σ:L2.St} {H:Hp} {neg:Bool} {Q:Bool->Hp->Prop} (h:tTs X.K (dIn neg i f) σ H Q) :
  tE X.K f σ H λy H1=>zBG i σ H1 λx H2=>∃ a o,x = .ref a/\zDJ H2 a y o/\Q (if neg then !o.isSome else o.isSome) H2:=by
 obtain ⟨G,ρ,b,s,er,ef,k⟩:=h
 obtain ⟨dk,e2,ef1⟩:=zUs.mp ef
 obtain ⟨kvs,e1,ef2⟩:=zUs.mp ef1
 obtain ⟨key,e3,rfl⟩:=zUt.mp ef2
 have e1':=zRT e1
 refine ⟨G,ρ,dk,s,er,e2,λv G' H' t r=>?_⟩
 obtain ⟨a2,ws2,w1,w2,w3,w4⟩:=(er.step t).dic i kvs e1'
 have ek:=zBv e3 r
 subst ek
 refine ⟨_,w1,a2,_,rfl,zDJ.k (k:=key) w3,?_⟩
 rcases w4.get (k:=key) with ⟨z,z'⟩|⟨d',v',z1,z2,z3⟩
 ·rw [z'] ;have:=k G' H' t;rw [z] at this;exact this
 ·rw [z2];have:=k G' H' t;rw [z1] at this;exact this
theorem zTo {o:Expr} (hu:X.A.units+1<cLine) (i:Nat) (ho:PE X o (zBG i)) (ha:SE X a f) (hm:behindInMarks .In o=false:=by rfl):SB X (.Compare a [.In] [o] pos) (dIn false i f):=
 zHX (zPt (zPz hu ha ho) hm) λσ H Q h=>by
  obtain ⟨G,ρ,dk,s,er,e2,k⟩:=zRU h
  refine ⟨G,ρ,dk,s,er,e2,λv G' H' t r=>?_⟩
  obtain ⟨x',q1,a2,o2,q2,q3,q4⟩:=k v G' H' t r
  exact ⟨x',q1,a2,o2,q2,q3,_,rfl,q4⟩
def zOV (i:Nat) (fk f:ROd):ROo:=λρ=>(f ρ).bind λd=>(gM ρ i).bind λkvs=>(fk ρ).bind λdk=>(zFs dk).bind λk=>if kvs.length<1000000 then some (.nx (ρ.set i (.m (zKo kvs k d)))) else none
theorem zMH {o ie:Expr} {fk:ROd} {tpos:Pos} (hu:X.A.units+1<cLine) (i:Nat) (ho:PE X o (zBG i)) (hi:SE X ie fk) (ha:SE X a f) (hs:swapsWith a (some (.Subscript o ie tpos)) pos.line X.env=pure false:=by rfl) :
  SS X (.Assign [.Subscript o ie tpos] a pos) (zOV i fk f):=
 yY (zLp hu ho hi ha hs) λE σ H=>by
  rintro ⟨G0,H0,G,ρ,o,st,ef,k⟩
  obtain ⟨d,e1,ef1⟩:=zUs.mp ef
  obtain ⟨kvs,e2,ef2⟩:=zUs.mp ef1
  obtain ⟨dk,e3,ef3⟩:=zUs.mp ef2
  obtain ⟨key,e4,ef4⟩:=zUs.mp ef3
  split at ef4
  ·rename_i hl
   cases ef4
   have e2':=zRT e2
   refine ⟨G,ρ,d,st.bs.gh,st.er,e1,λv G1 H1 t1 r1=>?_⟩
   obtain ⟨a1,ws,q1,q2,q3,q4⟩:=(st.step t1).er.dic i kvs e2'
   refine ⟨_,q1,G1,ρ,dk,t1.s,st.er.step t1,e3,λv2 G2 H2 t2 r2=>?_⟩
   have st':=(st.step t1).step t2
   obtain ⟨a2,ws2,w1,w2,w3,w4⟩:=st'.er.dic i kvs e2'
   rw [q1] at w1;cases w1
   have ek:=zBv e4 r2
   subst ek
   have hlen:ws2.length<sizeLine:=zU8 (by rw [<- w4.length];exact hl) (by decide)
   exact ⟨a1,_,rfl,zLl.k (k:=key) w3 hlen,k σ G2 _ (st'.mut e2' rfl rfl q1 (λys z=>by cases z) λys z=>by cases z;exact ⟨_,rfl,w4.put (Rep.mono t2.g _ _ r1)⟩)⟩
  ·cases ef4
end
def zQB (n:Nat) (p:ROb) (F:ROo):ROo:=λρ=>zBd p F n ρ
section
variable {X:Cx} {e a b:Expr} {es:List Expr} {f g:ROd} {fl:ROl} {p:ROb} {pos:Pos} {o:Expr} {apos cpos pos':Pos} {x:Str}
def zTp (i j:Nat):ROo:=λρ=>(gL ρ j).bind λxs=>(xs[xs.length-1]?).map λd=>.nx ((ρ.set j (.l xs.dropLast)).set i (.v d))
theorem zTq (i j:Nat) (ho:PE X o (zBG j)) (hN:X.N.Nodup) (hi:X.N[i]?=some x) (hx:Loc X.env.scope x)
  (hbase:attributeBase o "pop" X.env (eval o X.env)=eval o X.env:=by rfl) (hline:(apos.endLine == cpos.line)=true:=by rfl)
  (hs:swapsWith (.Call (.Attribute o "pop" apos) [] [] cpos) (some (.Name x pos')) pos.line X.env=pure false:=by rfl)
  (hf:X.fn x=true\/X.env.scope.names.lookup x=some .local:=by first|exact .inl rfl|exact .inr rfl|assumption) :
  SS X (.Assign [.Name x pos'] (.Call (.Attribute o "pop" apos) [] [] cpos) pos) (zTp i j):=
 yY (zDw hN hi hx (zTP zV1 PySem.F.slot_list_pop PySem.F.type_list_pop zTQ ho hbase hline) hs hf) λE σ H=>by
  rintro ⟨G0,H0,G,ρ,o,st,ef,k⟩
  obtain ⟨xs,e1,ef⟩:=zUs.mp ef
  obtain ⟨d,e2,rfl⟩:=zUt.mp ef
  have e1':=zOJ e1
  obtain ⟨a1,vs,q1,q2,q3,q4⟩:=st.er.own j xs e1'
  obtain ⟨v,e3,r⟩:=q4.get e2
  rw [q4.length] at e3
  refine ⟨_,q1,.inl ⟨rfl,vs,SqL.of q3⟩,a1,vs,v,rfl,rfl,q3,e3,?_⟩
  exact k _ G _ ((st.mut e1' rfl rfl q1 (λys z=>by cases z;exact ⟨_,rfl,q4.dropLast⟩) λ_ z=>by cases z).setV r)
def zTr (i:Nat) (fl:ROl):ROo:=λρ=>(gL ρ i).bind λxs=>(fl ρ).bind λys=>if xs.length+ys.length<=1000000 then some (.nx (ρ.set i (.l (xs++ys)))) else none
theorem zHn (i:Nat) (ho:PE X o (zBG i)) (ha:SF X a fl)
  (hbase:attributeBase o "extend" X.env (eval o X.env)=eval o X.env:=by rfl)
  (hfew:((backTo cpos (starEach [a] X.env)).all (λx=>!x.1) && (backToKw cpos (keywordEach [] X.env)).all (λx=>x.1.isSome)
   && decide ([a].length+([]:List Keyword).length+(if ([]:List Keyword).isEmpty then 0 else 1)<30))=true:=by rfl)
  (hline:(apos.endLine == cpos.line)=true:=by rfl) (hs:starEach [a] X.env=(false,eval a X.env)::starEach [] X.env:=by rfl) (hplain:(backTo cpos (starEach [] X.env)).any (·.1)=false:=by rfl)
  (hsw:swapsWith (.Call (.Attribute o "extend" apos) [a] [] cpos) none pos.line X.env=pure false:=by rfl) :
  SS X (.Expr (.Call (.Attribute o "extend" apos) [a] [] cpos) pos) (zTr i fl):=
 yY (zBq (zGQ zV1 PySem.F.slot_list_extend PySem.F.type_list_extend zLj ho (yD ha yy hs) hbase hfew hline hs hplain) hsw) λE σ H=>by
  rintro ⟨G0,H0,G,ρ,o,st,ef,k⟩
  obtain ⟨xs,e1,ef⟩:=zUs.mp ef
  obtain ⟨ys,e2,ef⟩:=zUs.mp ef
  split at ef
  ·rename_i hl
   cases ef
   have e1':=zOJ e1
   obtain ⟨a1,vs,q1,q2,q3,q4⟩:=st.er.own i xs e1'
   refine ⟨_,q1,.inl ⟨rfl,vs,SqL.of q3⟩,G,ρ,ys,st.bs.gh,st.er,e2,λb us G' H' t h1 h2 h3 r=>?_⟩
   have st':=st.step t
   obtain ⟨a2,vs2,w1,w2,w3,w4⟩:=st'.er.own i xs e1'
   rw [q1] at w1;cases w1
   refine ⟨a1,b,vs2,us,rfl,rfl,w3,h3,?_,k σ G' _ (st'.mut e1' rfl rfl q1 (λzs z=>by cases z;exact ⟨_,rfl,w4.append r⟩) λ_ z=>by cases z)⟩
   rw [<- w4.length,<- r.length]
   exact zVb hl (by decide)
  ·cases ef
end
section
variable {prog:Program} {w:World} {A:Around} {E:VSt} {s:Shared}
theorem zFW {a:Addr} {vs:List Value} {ss:List Str} {n:Nat} {P:Fin->Shared->Prop} (ho:s.heap.get? a=some (seqObj "list" vs.toArray n)) (hS:StrsAre vs ss) (h64:vs.length<64)
  (h:∀ (out:Array Value) (ss':List Str),StrsAre out.toList ss'->ss'.Perm ss->sortedS ss'=true->P (.done (.ret .none)) { s with heap:=sortedHeap s.heap a vs out }) :
  wpAny (model prog w) A (Builtin.«list.sort» ⟨[.ref a],[]⟩) P E s:=by
 refine list_sort_treeK strKind_oneLt ho hS.keysOf (λv₁ v₂ rest e=>keyKind_strs (by rw [<- e];exact hS)) h64 λst' hp hs=>?_
 obtain ⟨ss',h1,h2,h3⟩:=sorted_out_str hS hp hs
 exact h _ ss' h1 h2 h3
theorem zIi {d:Addr} {kvs:List (Key×Value)} {ep:Nat} {Q:VSt} (lo:(d == sysModules)=false) (hh:A.handled=none) (hd:s.heap.DictAt (z6 prog w) d kvs ep) (h64:kvs.length<64)
  (h:∀ (h':Heap) (tk:Nat) (vs:List Value),(∀ b o,s.heap.get? b=some o->h'.get? b=some o)->vs.length=kvs.length->(∀ (j:Nat) (v:Value),vs[j]?=some v->∃ k x,kvs[j]?=some (k,x)/\(z6 prog w).is k v=true) ->
   wpAny (model prog w) A.in1.in1 (Builtin.«list.sort» ⟨[.ref h'.objs.size],[]⟩) (λfin s'=>∃ v,fin = .done (.ret v)/\Q (.ref h'.objs.size) s') E { s with heap:=h'.push (seqObj "list" vs.toArray 0),toks:=tk }) :
  wpAny (model prog w) A (call (.builtin "sorted") [.ref d]) Q E s:=by
 refine Calls.call_function_entry kind_sorted plain_sorted entry_sorted (args_sorted1 _) ?_
 unfold Builtin.«sorted»
 refine zUz (m:=checkCount "sorted" 1 1 _) (zU6 ?_)
 refine zUz (PySem.W.kdu_collect (A:=A.in1) (PySem.W.kdl_dict lo) hh hd (by rw [zWZ];omega) λh' tk acc hk hacc=>?_)
 have hl:acc.toList.length=kvs.length:=by rw [zWq];exact hacc.1
 refine zUz (wpAny_newList ?_ (by rw [hl,zWZ];omega))
 have hg:=h h' tk acc.toList hk hl (λj v e=>hacc.2 j v (by rw [<- zW9];exact e))
 refine zUz (zWQ (wpAny_call_entry slot_list_sort ⟨_,zVO _ rfl,rfl⟩ entry_list_sort (zVk hg (λfin s' x=>?_) λ_ _ e=>e) (args_list_sort _)))
 obtain ⟨v,rfl,q⟩:=x
 exact ⟨_,rfl,zU6 ⟨_,rfl,q⟩⟩
end
def zLJ:Key->D
 |.inl i=>.int i
 |.inr x=>.str x
def zOW (kvs:List (Key×D)):List D:=kvs.map λq=>zLJ q.1
theorem zJp:∀ {xs:List V} {us:List Value},xs.length=us.length->(∀ (j:Nat) (u:Value),us[j]?=some u->∃ x,xs[j]?=some x/\yn x u)->yN xs us
 | [],[],_,_=>.nil
 |x::xs,u::us,hl,h=>by
  obtain ⟨y,e,r⟩:=h 0 u rfl
  simp at e;subst e
  exact .cons r (zJp (by simpa using hl) λj u' e=>by simpa using h (j+1) u' (by simpa using e))
 | [],_::_,hl,_=>by simp at hl
 |_::_,[],hl,_=>by simp at hl
theorem zRV {k:Key} {v:Value} (h:zIT k v=true):yn (kV k) v:=by
 rcases yU h with ⟨i,t,rfl,rfl⟩|⟨x,t,rfl,rfl⟩
 ·exact ⟨t,rfl⟩
 ·exact ⟨t,rfl⟩
def toV:D->V
 |.int i=>.int i
 |.str x=>.str x
 |_=>.non
theorem zTs (k:Key):kV k=toV (zLJ k):=by cases k<;>rfl
theorem zRW {α:Type} (kvs:List (Key×α)):(kvs.map λq=>kV q.1)=(kvs.map λq=>zLJ q.1).map toV:=by
 rw [zVt]
 exact zVx λq _=>zTs q.1
theorem zQC {α:Type}:∀ {kvs:List (α×V)} {vs:List (α×Value)} {j:Nat} {k:α} {x:Value},KV kvs vs->vs[j]?=some (k,x)->∃ y,kvs[j]?=some (k,y)
 |_,_,j,k,x,.nil,e=>by simp at e
 |(k0,y0)::_,(k1,u0)::_,0,k,x,.cons h t,e=>by
  simp at e
  have h1:k0=k1:=h.1
  exact ⟨y0,by simp [h1,e.1]⟩
 |_::_,_::_,j+1,k,x,.cons h t,e=>by simpa using zQC (j:=j) t (by simpa using e)
section
variable {X:Cx}
theorem zC5 (hcalm:X.calm=true):zAl X (.builtin "sorted") (λxs H Q=>∃ a kvs ys,xs = [.ref a]/\H a=some (.dK kvs)/\zFU (.lst (kvs.map λq=>zLJ q.1))=some ys/\∀ l us,H l=none->(∀ K G,Reps K G ys us)->Q (.ref l) (upd H l (.lst us))):=by
 intro pins s σ H xs us Q I r h
 obtain ⟨a,kvs,ys,rfl,hH,e,k⟩:=h
 obtain ⟨u,rfl,ru⟩:=zDT r
 cases ru
 obtain ⟨hz,lo,vs,kv,dd⟩:=zQ9 I.hok hH
 obtain ⟨ep,da⟩:=dd.dictAt
 simp only [zFU,zQA,zUw] at e
 split at e
 ·rename_i hl
  rw [zU4] at hl
  have l1:vs.length=kvs.length:=kv.length.symm
  refine zIi (kvs:=vs) lo (I.ok.hd hcalm) da (by omega) λh' tk its keep hlen hits=>?_
  have I1:Inv X pins σ H { s with heap:=h',toks:=tk }:=I.kept (t':=tk) keep
  have hn:H h'.objs.size=none:=I1.hok.fresh (zVA _)
  have vv:yN (kvs.map λq=>kV q.1) its:=zJp (by rw [zU4];omega) λj u eu=>by
   obtain ⟨kk,xx,e1,e2⟩:=hits j u eu
   obtain ⟨y,e3⟩:=zQC kv e1
   refine ⟨kV kk,by rw [zVc,e3];rfl,zRV ?_⟩
   exact e2
  rw [zRW] at vv
  have fin:∀ {out:Array Value} {vs':List V},yN vs' out.toList->(∀ K G,Reps K G ys vs')->vs'.length<=sizeLine->EP X pins σ Q (.ref h'.objs.size) { s with heap:=sortedHeap (h'.push (seqObj "list" its.toArray 0)) h'.objs.size its out,toks:=tk }:=λ{out vs'} h1 h2 h3=>by
   obtain ⟨e',he⟩:=sortedHeap_at (h:=h'.push (seqObj "list" its.toArray 0)) (a:=h'.objs.size) (vs:=its) (n:=0) (out:=out) (zVO _ rfl)
   refine ⟨.ref h'.objs.size,upd H h'.objs.size (.lst vs'),I1.laid (t':=tk) (λb ob eb=>?_) (zVA _) ⟨h3,out.toList,e',h1,?_⟩,rfl,k _ _ hn h2⟩
   ·have blt:=zVB eb
    rw [sortedHeap_old (zVN blt) (zU8 blt (by rw [zW8];exact zW4 _))]
    exact zU5 _ eb
   ·rw [he]
  split at e
  ·rename_i is hi
   cases e
   have e1:=zEl hi
   rw [e1,zVt] at vv
   refine zVk (list_sort_tree (P:=λfin s'=>∃ v,fin = .done (.ret v)/\EP X pins σ Q (.ref h'.objs.size) s') (n:=0) (zVO _ rfl) (zFk (ns:=is) vv) (by omega) λout ns' a1 a2 a3=>⟨_,rfl,?_⟩) (λ_ _ x=>x) λ_ _ x=>x
   have e5:=zCy _ _ (a2.trans (zA0 is).symm) a3 (zGc is)
   subst e5
   refine fin (zDa a1) (λK G=>Reps.ints _) ?_
   have:=(zA0 is).length_eq
   have:=zVw List.length e1
   simp only [zU4] at this ⊢
   exact zAc (by omega)
  ·rename_i hi
   obtain ⟨ss,e2,rfl⟩:=zUt.mp e
   have e1:=zC0 e2
   rw [e1,zVt] at vv
   refine zVk (zFW (P:=λfin s'=>∃ v,fin = .done (.ret v)/\EP X pins σ Q (.ref h'.objs.size) s') (n:=0) (zVO _ rfl) (zCF (ss:=ss) vv) (by omega) λout ns' a1 a2 a3=>⟨_,rfl,?_⟩) (λ_ _ x=>x) λ_ _ x=>x
   have e5:=zCz _ _ (a2.trans (zA1 ss).symm) (zFq a3) (zGd ss)
   subst e5
   refine fin (zDZ a1) (λK G=>Reps.strs _) ?_
   have:=(zA1 ss).length_eq
   have:=zVw List.length e1
   simp only [zU4] at this ⊢
   exact zAc (by omega)
 ·cases e
variable {e:Expr} {x:Str} {p1 pos:Pos}
def zRX (i:Nat):ROl:=λρ=>(gM ρ i).bind λkvs=>zFU (.lst (zOW kvs))
theorem zOX (i:Nat) (hcalm:X.calm=true) (hg:Gl X "sorted") (hm:X.mg "sorted" = none) (ho:PE X e (zBG i))
  (hs:starEach [e] X.env=(false,eval e X.env)::starEach [] X.env:=by rfl) (hpl:(backTo pos (starEach [] X.env)).any (·.1)=false:=by rfl):SF X (.Call (.Name "sorted" p1) [e] [] pos) (zRX i):=
 zAy (zCq (zC5 hcalm) hg hm zEG (yD ho yy hs) (by decide) (by decide) hs hpl) λσ H Q=>by
  rintro ⟨G,ρ,ys,s,er,ef,k⟩
  obtain ⟨kvs,e1,e2⟩:=zUs.mp ef
  obtain ⟨a,ws,q1,q2,q3,q4⟩:=er.dic i kvs (zRT e1)
  refine ⟨_,q1,a,ws,ys,rfl,q3,?_,λl us hl r=>?_⟩
  ·rw [<- e2]
   have z:(ws.map λq=>zLJ q.1)=zOW kvs:=by
    have:=zVw (List.map zLJ) q4.1
    rw [zVt,zVt] at this
    exact this.symm
   rw [z]
  ·exact k l us G _ (zd.newH s hl) hl (s.free hl) zN (r _ _)
end
def tyD:D->String
 |.non=>"NoneType" | .bl _=>"bool" | .int _=>"int" | .str _=>"str" | .tup _=>"tuple" | .lst _=>"list"
def zTt (T:String) (d:D):Bool:=tyD d == T || (tyD d == "bool" && T == "int")
def zTu (T:String) (d:D):Option D:=some (.bl (zTt T d))
def isiT (T:String):Bool:=T == "tuple" || T == "int" || T == "bool" || T == "str" || T == "list"
theorem zTv {K:Fg} {T:String} (hT:isiT T=true) (d:D):PySem.W.kitOne K (.type (tyD d)) (.type T)=some (zTt T d):=by
 have hT':T = "tuple"\/T = "int"\/T = "bool"\/T = "str"\/T = "list":=by simpa [isiT,or_assoc] using hT
 rcases hT' with rfl|rfl|rfl|rfl|rfl<;>cases d<;>first|rfl|kernel_rfl
section
variable {X:Cx} {a:Expr} {f:ROd} {p1 p2 pos:Pos}
theorem zOY {T:String} (hT:isiT T=true):zAl X (.builtin "isinstance") (λxs H Q=>∃ G d x,xs = [x,.ty T]/\zf G H/\zCE X.K G H d x/\Q (.bl (zTt T d)) H):=by
 intro pins s σ H xs us Q I r h
 obtain ⟨G,d,x,rfl,sm,rx,q⟩:=h
 obtain ⟨u,u2,rfl,r1,r2⟩:=zTI r
 cases (show u2=Value.type T from r2)
 have e:=zTv (K:=X.K) hT d
 have fin:∀ tk,EP X pins σ Q (.bool (zTt T d)) { s with toks:=tk }:=λtk=>⟨.bl _,H,I.tok tk,rfl,q⟩
 cases d with
 |non=>have:=rx.non;subst this;cases (show u=Value.none from r1);exact zWh PySem.W.kitx_none I.kIn True.intro e (λz=>nomatch z) fin
 |bl b=>have:=rx.bl;subst this;cases (show u=Value.bool b from r1);exact zWh PySem.W.kitx_bool I.kIn True.intro e (λz=>nomatch z) fin
 |int i=>have:=rx.int;subst this;obtain ⟨t,q⟩:=(show ∃ t,u=Value.int i t from r1);cases q;exact zWh PySem.W.kitx_int I.kIn True.intro e (λz=>nomatch z) fin
 |str i=>have:=rx.str;subst this;obtain ⟨t,q⟩:=(show ∃ t,u=Value.str i t from r1);cases q;exact zWh PySem.W.kitx_str I.kIn True.intro e (λz=>nomatch z) fin
 |tup ys=>
  obtain ⟨b,vs,rfl,sq,_⟩:=rx.tup sm
  cases (show u=Value.ref b from r1)
  obtain ⟨its,_,⟨o,h1,h2,_⟩,_⟩:=I.tuple sq
  exact zWh PySem.W.kitx_tuple I.kIn ⟨o,h1,h2⟩ e (λz=>nomatch z) fin
 |lst ys=>
  obtain ⟨b,vs,rfl,sq,_⟩:=rx.list sm
  cases (show u=Value.ref b from r1)
  obtain ⟨its,_,⟨o,n,h1,h2,_⟩,_⟩:=I.list sq
  exact zWh PySem.W.kitx_list I.kIn ⟨o,h1,h2⟩ e (λz=>nomatch z) fin
theorem zQD {T:String} {y:Str} (hT:isiT T=true) (hg:Gl X "isinstance") (hm:X.mg "isinstance" = none) (hgT:Gl X y) (hmT:X.mg y=none) (hbT:bootBuiltins y=some (.type T)) (ha:SR X a f)
  (hnT:y ≠ "__name__":=by decide) (hdT:(y == ("__debug__" : Str))=false:=by decide)
  (hs:starEach [a,.Name y p2] X.env=(false,eval a X.env)::starEach [.Name y p2] X.env:=by rfl) (hs2:starEach [.Name y p2] X.env=(false,eval (.Name y p2) X.env)::starEach [] X.env:=by rfl)
  (hpl:(backTo pos (starEach [.Name y p2] X.env)).any (·.1)=false:=by rfl):SE X (.Call (.Name "isinstance" p1) [a,.Name y p2] [] pos) (b1 f (zTu T)):=
 zAy (zCq (zOY hT) hg hm zHl (yD ha (yD (zQi (v:=.ty T) hgT hmT hbT rfl hnT hdT) yy hs2) hs) (by decide) (by decide) hs hpl) λσ H Q=>by
  rintro ⟨G,ρ,d,s,er,ef,k⟩
  obtain ⟨d1,e1,ef⟩:=zUs.mp ef
  cases ef
  exact ⟨G,ρ,d1,s,er,e1,λv1 G1 H1 t1 r1=>⟨G1,d1,v1,rfl,t1.s,r1,k _ G1 H1 t1 (yO.mpr rfl)⟩⟩
end
def zEo:List D->Option (List Bool)
 | []=>some []
 |.bl b::r=>(zEo r).map (b :: ·)
 |_=>none
def allO:D->Option D
 |.lst xs=>(zEo xs).map λbs=>.bl (bs.all id)
 |_=>none
def anyO:D->Option D
 |.lst xs=>(zEo xs).map λbs=>.bl (bs.any id)
 |_=>none
theorem zFw:∀ {xs:List D} {bs:List Bool},zEo xs=some bs->xs=bs.map .bl
 | [],bs,h=>by cases h;rfl
 |d::r,bs,h=>by
  cases d with
  |bl b=>
   obtain ⟨js,e,rfl⟩:=zUt.mp h
   rw [zUx,<- zFw e]
  |_=>cases h
theorem zFx {K:Fg} {G:Hp}:∀ {bs:List Bool} {vs:List V},Reps K G (bs.map .bl) vs->vs=bs.map V.bl
 | [],vs,h=>yP.mp h
 |b::bs,vs,h=>by
  obtain ⟨v,r,rfl,h1,h2⟩:=za.mp h
  rw [yO.mp h1,zFx h2];rfl
theorem zFy:∀ {bs:List Bool} {us:List Value},yN (bs.map V.bl) us->us=bs.map Value.bool
 | [],us,r=>by cases r;rfl
 |b::bs,us,r=>by
  cases r with
  |cons r1 r2=>cases (show _=Value.bool b from r1);rw [zFy r2];rfl
theorem zMI (bs:List Bool):(List.range bs.length).all (λi=>bs.getD i false)=bs.all id:=by
 rw [zXM]
 simp only [zWa,zWD]
 constructor
 ·intro h b hb
  obtain ⟨i,hi,rfl⟩:=zWT.mp hb
  simpa [List.getD,hi] using h i hi
 ·intro h i hi
  have:=h bs[i] (zWb hi)
  simpa [List.getD,hi] using this
theorem zMJ (bs:List Bool):(List.range bs.length).any (λi=>bs.getD i false)=bs.any id:=by
 rw [zXM]
 simp only [zXG,zWD]
 constructor
 ·rintro ⟨i,hi,h⟩
  exact ⟨bs[i],zWb hi,by simpa [List.getD,hi] using h⟩
 ·rintro ⟨b,hb,h⟩
  obtain ⟨i,hi,rfl⟩:=zWT.mp hb
  exact ⟨i,hi,by simpa [List.getD,hi] using h⟩
section
variable {X:Cx}
theorem zFz {pins:PNt} {σ:L2.St} {H G:Hp} {s:Shared} {xs:List D} {bs:List Bool} {v:V} {u:Value} {A:Around} {E:VSt} {Q:Bool->Value->Shared->Prop} (hcalm:A.handled=none) (I:Inv X pins σ H s) (sm:zf G H) (r1:zCE X.K G H (.lst xs) v) (ru:yn v u) (e:zEo xs=some bs)
  (R:List Bool->Bool) (tr:Nat->Bool) (htr:tr=λi=>bs.getD i false)
  (h:∀ (I0:Addr) (fp wr:List Addr) (n:Nat) (P:Nat->Value->Prop) (St:Nat->Heap->Prop) (h2:Heap),n=bs.length->Walks X.prog X.w A I0 fp wr n P St->St 0 h2->TruthOf X.prog X.w A P tr->(∀ h' tk,(∀ b o,b∉wr->h2.get? b=some o->h'.get? b=some o)->Inv X pins σ H { s with heap:=h',toks:=tk })->Q true (.ref I0) { s with heap:=h2 }) :
  wpAny (model X.prog X.w) A (pyIter u) (Q true) E s:=by
 have e1:=zFw e
 subst e1
 obtain ⟨a,vs,rfl,q,w⟩:=r1.list sm
 cases ru
 obtain ⟨its,vv,p,hz⟩:=I.list q
 have hv:=zFx w
 subst hv
 have hu:=zFy vv
 subst hu
 have hl:=p.isList
 have hax:a<s.heap.objs.size:=by obtain ⟨_,e,_⟩:=hl;exact zVB e
 refine wpAny_pyIter_list hl ?_
 refine h s.heap.objs.size _ _ _ _ _ _ ?_ (Walks.list hcalm s.heap.objs.size a (zVN hax) (bs.map Value.bool).toArray) ⟨⟨_,zVO _ rfl,rfl,rfl⟩,hl.push _⟩ ?_ ?_
 ·simp
 ·intro i v s' Q' E' hP hQ
  have:∃ b,bs[i]?=some b/\v = .bool b:=by
   have hP':(bs.map Value.bool)[i]?=some v:=by simpa only [List.getElem?_toArray] using hP
   rw [zVc] at hP'
   obtain ⟨b,h1,h2⟩:=zUt.mp hP'
   exact ⟨b,h1,h2.symm⟩
  obtain ⟨b,hb,rfl⟩:=this
  rw [htr] at hQ
  simp only [List.getD,hb,Option.getD_some] at hQ
  exact zWJ hQ
 ·intro h' tk hk
  refine I.kept (t':=tk) λb o eb=>hk b o ?_ (zU5 _ eb)
  intro hm
  have:=zVB eb
  rw [zUy.mp hm] at this
  exact zWE _ this
theorem zMK (hcalm:X.calm=true):zAl X (.builtin "all") (cR X.K allO):=by
 intro pins s σ H xs us Q I r h
 obtain ⟨G,d1,d,x,rfl,sm,r1,e,k⟩:=h
 obtain ⟨u,rfl,ru⟩:=zDT r
 cases d1 with
 |lst zs=>
  obtain ⟨bs,e1,rfl⟩:=zUt.mp e
  refine call_all_walk ?_
  refine zFz (Q:=λ_=>_) (A:=X.A.in1) (I.ok.hd hcalm) I sm r1 ru e1 (λ_=>true) _ rfl λI0 fp wr n P St h2 hn W st ht hk=>?_
  refine ⟨I0,fp,wr,n,P,St,_,rfl,W,st,ht,λh' tk hh=>?_⟩
  subst hn
  rw [zMI]
  exact ⟨.bl _,H,hk h' tk hh,rfl,k _ G H (zd.refl sm) (yO.mpr rfl)⟩
 |_=>cases e
theorem zML (hcalm:X.calm=true):zAl X (.builtin "any") (cR X.K anyO):=by
 intro pins s σ H xs us Q I r h
 obtain ⟨G,d1,d,x,rfl,sm,r1,e,k⟩:=h
 obtain ⟨u,rfl,ru⟩:=zDT r
 cases d1 with
 |lst zs=>
  obtain ⟨bs,e1,rfl⟩:=zUt.mp e
  refine call_any_walk ?_
  refine zFz (Q:=λ_=>_) (A:=X.A.in1) (I.ok.hd hcalm) I sm r1 ru e1 (λ_=>true) _ rfl λI0 fp wr n P St h2 hn W st ht hk=>?_
  refine ⟨I0,fp,wr,n,P,St,_,rfl,W,st,ht,λh' tk hh=>?_⟩
  subst hn
  rw [zMJ]
  exact ⟨.bl _,H,hk h' tk hh,rfl,k _ G H (zd.refl sm) (yO.mpr rfl)⟩
 |_=>cases e
variable {x:Str} {pos:Pos}
end
section
variable {X:Cx} {tg e:Expr} {f:ROd}
end
section
variable {X:Cx}
end
theorem HOk.on {P:Program} {w:World} {H:Hp} {h h':Heap} (x:L2.HOk P w H h) (k:∀ b u o,H b=some o->h.get? b=some u->h'.get? b=some u):L2.HOk P w H h':=λa o e=>
 (x a o e).stay (λb u hb q=>by
  rcases hb with rfl|hb
  ·exact k _ u _ e q
  ·exact k b u _ hb q) (λ_ q=>q) λ_ _ q=>q
theorem zEp {P:Program} {w:World} {H:Hp} {h:Heap} {a:Addr} {o:HO} (x:qo P w H h a o):∃ u,h.get? a=some u:=by
 cases o with
 |lst xs=>obtain ⟨_,_,_,_,e⟩:=x;exact ⟨_,e⟩
 |tup xs=>obtain ⟨_,_,_,ob,e,_⟩:=x;exact ⟨_,e⟩
 |dK kvs=>obtain ⟨_,_,_,_,ob,_,_,e,_⟩:=x;exact ⟨_,e⟩
 |dT kvs=>obtain ⟨_,_,_,_,ob,_,_,e,_⟩:=x;exact ⟨_,e⟩
 |set S n=>obtain ⟨ob,_,_,_,e,_⟩:=x;exact ⟨_,e⟩
 |ins C dx fs=>obtain ⟨_,_,_,e,_⟩:=x;exact ⟨_,e⟩
 |own y=>exact x
 |xd fs=>obtain ⟨_,⟨_,_,_,e,_⟩,_⟩:=x;exact ⟨_,e⟩
 |rng lo hi=>obtain ⟨_,_,_,e⟩:=x;exact ⟨_,e⟩
 |frz ob u=>exact ⟨_,x.1⟩
 |tbl ps=>exact ⟨_,(show h.get? a=some { cls:=.none,data:=.fields ps } from x)⟩
 |met f y=>exact ⟨_,(show h.get? a=some (PySem.W.methodObj (.ref f) (.ref y)) from x)⟩
 |ext φ=>exact x.2.1
def Fly (l:List Env) (x T:Addr) (cls:Value) (h:Heap):Prop:=∃ a0,Heap.FlyingW (PySem.W.hideAll h (x::T::frs l)) l x cls a0 h
theorem zTw {B h:Heap} {l:List Env} {x:Addr} {cls a0:Value} (f:Heap.FlyingW B l x cls a0 h):∃ T,Fly l x T cls h/\B.get? T=none/\T≠x/\(∃ o ts,h.get? T=some o/\o.data = .fields ts):=by
 obtain ⟨f1,f2,f3,oe,vs,T,oT,ts,g1,g2,g3,g4,g5,g6,g7,g8,g9⟩:=f
 refine ⟨T,⟨a0,λb o e=>zWz _ e,zWI _ (by simp),?_,oe,vs,T,oT,ts,g1,g2,g3,g4,zWI _ (by simp),g6,g7,g8,g9⟩,g5,g6,oT,ts,g7,g8⟩
 exact zW2 f3 λenv he a ha=>zUu _ (zUu _ (zVR.mpr ⟨env,he,ha⟩))
def CXE (P:Program) (w:World):CXT:=λouter H s E e s'=>∃ x T C H',e = .ref x/\s'.os=s.os/\AllBare s'.gens/\L2.Un (frs outer) [] H H' s.heap s'.heap/\L2.HOk P w H' s'.heap/\Fly outer x T (.ref C) s'.heap /\
 s.heap.get? x=none/\s.heap.get? T=none/\H' x=none/\H' T=none/\E (.ref C) none H'
section
variable {P:Program} {w:World} {K:Fg} {mg:MGt} {base:Heap} {N:List Str} {qual:Str} {scope:Scope} {f:Addr} {cd:Value} {A:Around} {outer:List Env} {s₀:Shared} {H₀:Hp} {E:XK}
abbrev cxE (P:Program) (w:World) (K:Fg) (mg:MGt) (base:Heap) (N:List Str) (qual:Str) (scope:Scope) (f:Addr) (cd:Value) (A:Around) (outer:List Env) (s₀:Shared) (H₀:Hp) (E:XK):Cx:=zFS (CXE P w) P w K mg base N qual scope f cd A outer s₀ H₀ E
theorem zMM {pins:PNt} {σ:L2.St} {H:Hp} {s:Shared} {bad:List Addr} {x C:Addr} {a0:Value} {h':Heap} (I:Inv (cxE P w K mg base N qual scope f cd A outer s₀ H₀ E) pins σ H s)
  (hb:∀ b∈bad,b∈frs (envOfC qual scope s₀.heap.objs.size f cd::outer)\/(s₀.heap.get? b=none/\H b=none))
  (x1:Heap.FlyingW (PySem.W.hideAll s.heap bad) outer x (.ref C) a0 h') (x2:∀ b∈frs outer,∀ o,s.heap.get? b=some o->(∀ vs,o.data≠.fields vs)->∃ sl,h'.get? b=some { o with slots:=sl }) (hx0:s₀.heap.get? x=none) (hHx:H x=none) (hE:E (.ref C) none H) :
  CXE P w outer H₀ s₀ E (.ref x) { s with heap:=h' }:=by
 obtain ⟨T,fl,t1,t2,oT,ts,t3,t4⟩:=zTw x1
 have hL:s₀.heap.get? s₀.heap.objs.size=none:=by
  cases q:s₀.heap.get? s₀.heap.objs.size with
  |none=>rfl
  |some o=>exact absurd (zVB q) (zWE _)
 -- a thing of the entry's heap that is bad is a caller's frame
 have badf:∀ b o,s₀.heap.get? b=some o->b∈bad->b∈frs outer:=λb o e m=>by
  rcases hb b m with q|⟨q,_⟩
  ·rcases zVR.mp q with ⟨env,he,hf⟩
   rcases zU1.mp he with rfl|he
   ·have z:s₀.heap.objs.size=b:=zVs hf
    rw [<- z,hL] at e;cases e
   ·exact zVR.mpr ⟨env,he,hf⟩
  ·rw [q] at e;cases e
 have stay:∀ b o,s.heap.get? b=some o->b∉bad->h'.get? b=some o:=λb o e nb=>x1.1 b o (zWM _ e nb)
 have frd:∀ b,b∈frs outer->∃ o,s.heap.get? b=some o/\∀ vs,o.data≠.fields vs:=λb m=>by
  obtain ⟨_,o,ho,hd⟩:=I.stack.mem (zVR.mpr (by
   obtain ⟨env,he,hf⟩:=zVR.mp m
   exact ⟨env,zUu _ he,hf⟩))
  exact ⟨o,ho,hd⟩
 have trk:∀ b o,H b=some o->b∉bad:=λb o e m=>by
  rcases hb b m with q|⟨_,q⟩
  ·have:=I.stkFree b q
   rw [this] at e;cases e
  ·rw [q] at e;cases e
 have hT0:s₀.heap.get? T=none:=by
  cases q:s₀.heap.get? T with
  |none=>rfl
  |some o=>
   exfalso
   obtain ⟨o',q'⟩:=I.base.there T o q (by show T∉([]:List Addr);simp)
   by_cases m:T∈bad
   ·obtain ⟨_,ob,g1,g2⟩:=x1.2.2.1.mem (badf T o q m)
    rw [t3] at g1;cases g1
    exact g2 _ t4
   ·rw [zWM _ q' m] at t1;cases t1
 have hHT:H T=none:=by
  cases q:H T with
  |none=>rfl
  |some o=>
   exfalso
   obtain ⟨u,hu⟩:=zEp (I.hok T o q)
   rw [zWM _ hu (trk T o q)] at t1;cases t1
 refine ⟨x,T,C,H,rfl,I.os,I.bare,⟨λb o e n nf _=>?_,λb o e n m _=>?_,λb o e n nx=>I.base.free b o e n nx,λb o e _=>?_,I.base.tups,I.base.frzs,I.base.tbls⟩,?_,fl,hx0,hT0,hHx,hHT,hE⟩
 ·exact stay b o (I.base.keep b o e n nf (by show b∉([]:List Addr);simp)) λm=>nf (badf b o e m)
 ·obtain ⟨sl,e1⟩:=I.base.slot b o e n m (by show b∉([]:List Addr);simp)
  obtain ⟨ob,e2,hd⟩:=frd b m
  rw [e1] at e2;cases e2
  obtain ⟨sl',e3⟩:=x2 b m _ e1 hd
  exact ⟨sl',e3⟩
 ·obtain ⟨o',e1⟩:=I.base.there b o e (by show b∉([]:List Addr);simp)
  by_cases m:b∈bad
  ·obtain ⟨ob,e2,hd⟩:=frd b (badf b o e m)
   rw [e1] at e2;cases e2
   obtain ⟨sl',e3⟩:=x2 b (badf b o e m) _ e1 hd
   exact ⟨_,e3⟩
  ·exact ⟨o',stay b o' e1 m⟩
 ·exact HOk.on I.hok λb u o e q=>stay b u q (trk b o e)
theorem zQE {pins:PNt} {σ:L2.St} {H:Hp} {s:Shared} {bad:List Addr} {x C:Addr} {a0:Value} {h':Heap} (I:Inv (cxE P w K mg base N qual scope f cd A outer s₀ H₀ E) pins σ H s)
  (hb:∀ b∈bad,b∈frs (envOfC qual scope s₀.heap.objs.size f cd::outer)\/(s₀.heap.get? b=none/\H b=none))
  (x1:Heap.FlyingW (PySem.W.hideAll s.heap bad) outer x (.ref C) a0 h') (x2:s.heap.UpToSlots h') (hx0:s₀.heap.get? x=none) (hHx:H x=none) (hE:E (.ref C) none H) :
  CXE P w outer H₀ s₀ E (.ref x) { s with heap:=h' }:=
 zMM I hb x1 (λb _=>x2 b) hx0 hHx hE
theorem zMN:zBb (CXE P w) (cxE P w K mg base N qual scope f cd A outer s₀ H₀ E) E:=by
 intro pins σ H s e s' I h
 obtain ⟨x,T,C,H',rfl,os,bare,un,hok,⟨a0,fl⟩,nx,nT,hx,hT,hE⟩:=h
 have J:Inv (cxE P w K mg base N qual scope f cd A outer s₀ H₀ E) pins σ H' s':=I.call' os un hok bare λb m=>absurd m (by simp)
 have old:∀ b,s.heap.get? b=none->s₀.heap.get? b=none:=λb n=>by
  cases q:s₀.heap.get? b with
  |none=>rfl
  |some o=>
   obtain ⟨o',q'⟩:=I.base.there b o q (by show b∉([]:List Addr);simp)
   rw [n] at q';cases q'
 show wpAny (model P w) (A.deeper (envOfC qual scope s₀.heap.objs.size f cd)) (leaving (envOfC qual scope s₀.heap.objs.size f cd) (.ref x)) _ _ s'
 refine wpAny_leaves_onW (J.ok.frames) (L:=s₀.heap.objs.size) rfl fl λh' x1 x2=>?_
 refine zQE J (λb m=>?_) x1 x2 (old x nx) hx hE
 rcases zU1.mp m with rfl|m
 ·exact .inr ⟨old _ nx,hx⟩
 rcases zU1.mp m with rfl|m
 ·exact .inr ⟨old _ nT,hT⟩
 ·exact .inl m
theorem zRY {pins:PNt} {σ:L2.St} {H:Hp} {s:Shared} {x C:Addr} {h':Heap} {args:List Value} (I:Inv (cxE P w K mg base N qual scope f cd A outer s₀ H₀ E) pins σ H s)
  (m:Heap.MadeExcOf s.heap h' x (.ref C) args) (hE:E (.ref C) none H):(cxE P w K mg base N qual scope f cd A outer s₀ H₀ E).xe (.ref x) { s with heap:=h' }:=by
 show wpAny (model P w) (A.deeper (envOfC qual scope s₀.heap.objs.size f cd)) (leaving (envOfC qual scope s₀.heap.objs.size f cd) (.ref x)) _ _ _
 have hin:∀ env∈(envOfC qual scope s₀.heap.objs.size f cd::outer),∀ a,env.frame=some a->a∈frs (envOfC qual scope s₀.heap.objs.size f cd::outer):=λenv he a ha=>zVR.mpr ⟨env,he,ha⟩
 have st:s.heap.FunFrames (PySem.W.hideAll s.heap (frs (envOfC qual scope s₀.heap.objs.size f cd::outer))) (envOfC qual scope s₀.heap.objs.size f cd::outer):=zW2 I.stack hin
 refine wpAny_leaves_madeW (s:={ s with heap:=h' }) (I.ok.frames) (L:=s₀.heap.objs.size) rfl (λb o e=>zWz _ e) st m λh'' t x1 _ _ x2=>?_
 have nx0:s₀.heap.get? x=none:=by
  cases q:s₀.heap.get? x with
  |none=>rfl
  |some o=>
   obtain ⟨o',q'⟩:=I.base.there x o q (by show x∉([]:List Addr);simp)
   rw [m.new] at q';cases q'
 have hHx:H x=none:=by
  cases q:H x with
  |none=>rfl
  |some o=>
   obtain ⟨u,hu⟩:=zEp (I.hok x o q)
   rw [m.new] at hu;cases hu
 exact zQE (s:=s) I (λb mb=>.inl mb) x1 ((Heap.UpToSlots.of_keeps m.keeps).trans x2) nx0 hHx hE
end
abbrev bmV:List Value:=[.type "ValueError",.type "Exception",.type "BaseException",.type "object"]
def zRZ (K:Fg) (C:Addr):Prop:=PySem.W.excIn K C bmV "ValueError.__new__" = true
theorem zMO {K:Fg} {C:Addr} (q:zRZ K C):∃ bm N nm qn bs hdct sn sub ab col dd k0 k1 k2 k3 k5 oN,
  K.lookup C=some (excClassObj nm qn C N bs bm hdct sn sub ab col dd k0 k1 k2 k3 k5 "ValueError.__new__")/\K.lookup N=some oN/\(∀ h,K.In h->h.isNs N=true/\h.nsMap N "__init__" = none/\OwnTail h bmV bm):=by
 have q':=q
 unfold zRZ PySem.W.excIn at q'
 split at q'
 ·next dd cd sl ho=>
  split at q'
  ·next C' bm k0 k1 k2 k3 n k5 hm hs=>
   rw [zVm,zVm,zVm,zVm,zVm] at q'
   obtain ⟨⟨⟨⟨⟨e1,e2⟩,e3⟩,e4⟩,e5⟩,e6⟩:=q'
   have e1':C'=C:=by simpa using e1
   have e2':n = "ValueError.__new__":=by simpa using e2
   have e6':PySem.W.nsIn K cd.ns "__init__" = some none:=by simpa using e6
   subst e1' e2'
   cases cd with
   |mk nm bs mro ns qn hd sn sub ab col del=>
    simp only at hm e3 e5 e6'
    have e3':del=false:=by simpa using e3
    subst hm e3'
    cases sl with
    |mk l=>
     simp only at hs
     subst hs
     have e5':=e5
     unfold PySem.W.nsOkIn at e5'
     split at e5'
     ·next hN=>exact ⟨bm,ns,nm,qn,bs,hd,sn,sub,ab,col,dd,k0,k1,k2,k3,k5,_,ho,hN,λh X=>⟨PySem.W.isNs_of_in X e5,PySem.W.nsMap_none_of_in X e5 e6',PySem.W.tail_of_in X e4⟩⟩
     ·cases e5'
  ·cases q'
 ·cases q'
section
variable {P:Program} {w:World} {K:Fg} {mg:MGt} {base:Heap} {N:List Str} {qual:Str} {scope:Scope} {f:Addr} {cd:Value} {A:Around} {outer:List Env} {s₀:Shared} {H₀:Hp} {E:XK}
theorem zOZ {C:Addr} {x:Str} {e:Expr} {t:TA} {np cpos pos:Pos} (hC:zRZ K C) (hg:Gl (cxE P w K mg base N qual scope f cd A outer s₀ H₀ E) x) (hm:mg x=some (.ref C)) (ha:PA (cxE P w K mg base N qual scope f cd A outer s₀ H₀ E) [e] t) (hd:(x == ("__debug__" : Str))=false:=by decide)
  (he:starEach [e] (cxE P w K mg base N qual scope f cd A outer s₀ H₀ E).env=(false,eval e (cxE P w K mg base N qual scope f cd A outer s₀ H₀ E).env)::starEach [] (cxE P w K mg base N qual scope f cd A outer s₀ H₀ E).env:=by rfl)
  (hpl:(backTo cpos (starEach [] (cxE P w K mg base N qual scope f cd A outer s₀ H₀ E).env)).any (·.1)=false:=by rfl) :
  PS (cxE P w K mg base N qual scope f cd A outer s₀ H₀ E) (.Raise (some (.Call (.Name x np) [e] [] cpos)) none pos) (λ_ σ H=>t σ H λvs H1=>vs.length<=sizeLine/\E (.ref C) none H1):=by
 intro pins s σ H D I h
 obtain ⟨bm,Nn,nm,qn,bs,hdct,sn,sub,ab,col,dd,k0,k1,k2,k3,k5,oN,o1,oN1,oAll⟩:=zMO hC
 obtain ⟨o2,o3,o4⟩:=oAll _ I.kIn
 have hbs:bm.contains (.type "BaseException")=true:=o4.hasType (by decide)
 have e1:=PySem.F.excBase_ValueError
 refine wpAny_Raise_call_subU (C:=C) (nm:=nm) (q:=qn) (N:=Nn) (bs:=bs) (bm:=bm) (hdct:=hdct) (sn:=sn) (sub:=sub) (ab:=ab) (col:=col) (dd:=dd) (k0:=k0) (k1:=k1) (k2:=k2) (k3:=k3) (k5:=k5) (mN:=s.heap.nsMap Nn) e1 (by decide) e1 hbs (I.ok.hd rfl) (by rw [he];show (false || (backTo cpos (starEach [] _)).any (·.1))=false;rw [hpl];rfl) o3 ?_
 refine zGN I hg hm ⟨rfl,?_⟩ hd
 have hA:=ha cpos pins s σ H _ I h
 rw [he] at hA ⊢
 refine Calls.evalArgs_plain ?_
 refine thn hA λus s2 zz=>?_
 obtain ⟨vs,H1,I1,rv,hl,hE⟩:=zz
 exact ⟨rfl,by show us.length<=_;rw [<- rv.length];exact hl,I1.kIn _ _ o1,(Heap.Ns.of_isNs o2).at' (λo e=>by rw [I.kIn _ _ oN1] at e;cases e;exact I1.kIn _ _ oN1),(oAll _ I1.kIn).2.2,λh' x m=>zRY I1 m hE⟩
end
inductive zAp where
 |o (x:Out)|ex (c:Nat)
def PostX (K:Fg) (κ:Nat->Addr) (W:XK) (G0 H0:Hp) (E:zLR):zAp->Prop
 |.o x=>zSp K G0 H0 E x
 |.ex c=>∀ G H,Bs G0 H0 G H->W (.ref (κ c)) none H
def tSx (K:Fg) (κ:Nat->Addr) (W:XK) (F:Rho->Option zAp):TS:=λE σ H=>∃ G0 H0 G ρ o,StR K G0 H0 G H ρ σ/\F ρ=some o/\PostX K κ W G0 H0 E o
abbrev SX (X:Cx) (κ:Nat->Addr) (W:XK) (s:Stmt) (F:Rho->Option zAp):Prop:=PS X s (tSx X.K κ W F)
abbrev SXs (X:Cx) (κ:Nat->Addr) (W:XK) (s:List Stmt) (F:Rho->Option zAp):Prop:=PSs X s (tSx X.K κ W F)
section
variable {X:Cx} {κ:Nat->Addr} {W:XK} {e a b:Expr} {es:List Expr} {f g:ROd} {fl:ROl} {p:ROb} {pos:Pos} {F F':Rho->Option zAp} {F0:ROo} {st:Stmt} {rest:List Stmt}
noncomputable def oX (F:ROo):Rho->Option zAp:=λρ=>(F ρ).map .o
theorem zHo (h:SS X st F0):SX X κ W st (oX F0):=yY h λQ σ H=>by
 rintro ⟨G0,H0,G,ρ,o,st,ef,k⟩
 obtain ⟨x,e1,rfl⟩:=zUt.mp ef
 exact ⟨G0,H0,G,ρ,x,st,e1,k⟩
theorem zF0 (h:SSs X rest F0):SXs X κ W rest (oX F0):=zHY h λQ σ H=>by
 rintro ⟨G0,H0,G,ρ,o,st,ef,k⟩
 obtain ⟨x,e1,rfl⟩:=zUt.mp ef
 exact ⟨G0,H0,G,ρ,x,st,e1,k⟩
noncomputable def sqX (F F':Rho->Option zAp):Rho->Option zAp:=λρ=>(F ρ).bind λo=>match o with
 |.o (.nx ρ')=>F' ρ'
 |o=>some o
theorem qZ (h1:SX X κ W st F) (h2:SXs X κ W rest F'):SXs X κ W (st::rest) (sqX F F'):=zHY (zJW h1 h2) λQ σ H=>by
 rintro ⟨G0,H0,G,ρ,o,st,ef,k⟩
 obtain ⟨o1,e1,e2⟩:=zUs.mp ef
 refine ⟨G0,H0,G,ρ,o1,st,e1,?_⟩
 cases o1 with
 |o x=>
  cases x with
  |nx ρ'=>exact λσ' G' H' st'=>⟨G0,H0,G',ρ',o,st',e2,k⟩
  |rt d=>cases e2;exact k
  |ro d=>cases e2;exact k
  |rm d ρ=>cases e2;exact k
  |bk d=>cases e2;exact k
  |ct d=>cases e2;exact k
 |ex c=>cases e2;exact k
theorem zMP (h1:SX X κ W st F):SXs X κ W [st] F:=zLS h1
noncomputable def zQF (c:ROb) (F F':Rho->Option zAp):Rho->Option zAp:=λρ=>(c ρ).bind λb=>if b=true then F ρ else F' ρ
theorem zTx {c:Expr} {A B:List Stmt} (hc:SB X c p) (ha:SXs X κ W A F) (hb:SXs X κ W B F'):SX X κ W (.If c A B pos) (zQF p F F'):=yY (zQl hc ha hb) λQ σ H=>by
 rintro ⟨G0,H0,G,ρ,o,st,ef,k⟩
 obtain ⟨d,e1,e2⟩:=zUs.mp ef
 refine ⟨G,ρ,d,st.bs.gh,st.er,e1,λG' H' t=>?_⟩
 cases d with
 |true=>rw [zVE rfl] at e2 ⊢;exact ⟨G0,H0,G',ρ,o,st.step t,e2,k⟩
 |false=>rw [zVe zVV] at e2 ⊢;exact ⟨G0,H0,G',ρ,o,st.step t,e2,k⟩
def forX (g:D->Rho->Option Rho) (F:Rho->Option zAp):List D->Rho->Option zAp
 | [],ρ=>some (.o (.nx ρ))
 |d::ds,ρ=>(g d ρ).bind λρ1=>(F ρ1).bind λo=>match o with
  |.o (.nx ρ')=>forX g F ds ρ'
  |.o (.ct ρ')=>forX g F ds ρ'
  |.o (.bk ρ')=>some (.o (.nx ρ'))
  |.o (.rt d)=>some (.o (.rt d))
  |.o (.ro s)=>some (.o (.ro s))
  |.o (.rm d ρ)=>some (.o (.rm d ρ))
  |.ex c=>some (.ex c)
def zAd (c:ROb) (F:Rho->Option zAp):Nat->Rho->Option zAp
 |0,_=>none
 |n+1,ρ=>(c ρ).bind λb=>if b=true then (F ρ).bind λo=>match o with
   |.o (.nx ρ')=>zAd c F n ρ'
   |.o (.ct ρ')=>zAd c F n ρ'
   |.o (.bk ρ')=>some (.o (.nx ρ'))
   |.o (.rt d)=>some (.o (.rt d))
   |.o (.ro s)=>some (.o (.ro s))
   |.o (.rm d ρ)=>some (.o (.rm d ρ))
   |.ex c=>some (.ex c)
  else some (.o (.nx ρ))
def zEq (n:Nat) (p:ROb) (F:Rho->Option zAp):Rho->Option zAp:=λρ=>zAd p F n ρ
theorem zOa (n:Nat) {c:Expr} {body:List Stmt} (hp:PassesOwn (model X.prog X.w) X.A X.env X.xe) (hc:SB X c p) (hb:SXs X κ W body F):SX X κ W (.While c body [] pos) (zEq n p F):=
 yY (zJX hp hc hb) λE σ H=>by
  rintro ⟨G0,H0,G,ρ,o,st,ef,k⟩
  refine ⟨λm σ' H'=>∃ G' ρ',StR X.K G0 H0 G' H' ρ' σ'/\zAd p F m ρ'=some o,⟨n,G,ρ,st,ef⟩,?_⟩
  rintro m σ2 H2 ⟨G2,ρ2,st2,ef2⟩
  cases m with
  |zero=>cases ef2
  |succ m=>
   obtain ⟨b,e1,e2⟩:=zUs.mp ef2
   refine ⟨G2,ρ2,b,st2.bs.gh,st2.er,e1,λG3 H3 t3=>?_⟩
   cases b with
   |false=>
    rw [zVe zVV] at e2 ⊢
    cases e2
    exact k σ2 G3 H3 (st2.step t3)
   |true=>
    rw [zVE rfl] at e2 ⊢
    obtain ⟨o3,e5,e6⟩:=zUs.mp e2
    refine ⟨λσ' H'=>∃ G' ρ',StR X.K G0 H0 G' H' ρ' σ'/\zAd p F m ρ'=some o,λσ' H' h=>⟨m,zXK _,h⟩,G0,H0,G3,ρ2,o3,st2.step t3,e5,?_⟩
    cases o3 with
    |o x3=>
     cases x3 with
     |nx ρ'=>exact λσ5 G5 H5 st5=>⟨G5,ρ',st5,e6⟩
     |ct ρ'=>exact λσ5 G5 H5 st5=>⟨G5,ρ',st5,e6⟩
     |bk ρ'=>cases e6;exact k
     |rt d=>cases e6;exact k
     |ro d=>cases e6;exact k
     |rm d ρ=>cases e6;exact k
    |ex c=>cases e6;exact k
end
def spX (K:Fg) (κ:Nat->Addr) (f:List D->Option (Except Nat D)) (n:Nat):Sp:=λvs H Q E=>∃ G ds r,zf G H/\Reps K G ds vs/\ds.length=n/\f ds=some r/\match r with
 |.ok d=>∀ v G' H',zd G H G' H'->Rep K G' d v->Q v H'
 |.error c=>∀ G' H',zd G H G' H'->E (.ref (κ c)) none H'
def zRa (N:List Str) (F:Rho->Option zAp) (ds:List D):Option (Except Nat D):=(F (ds.map Sl.v++List.replicate (N.length-ds.length) .un)).bind λo=>match o with
 |.o (.rt d)=>some (.ok d)
 |.o (.nx _)=>some (.ok .non)
 |.ex c=>some (.error c)
 |_=>none
section
variable {P:Program} {w:World} {K:Fg} {mg:MGt} {base:Heap} {κ:Nat->Addr}
theorem zQG {x qual:Str} {st:Stmt} {fa:Addr} {fd:FuncData} {N ps:List Str} {k:Nat} {F:Rho->Option zAp} {f:List D->Option (Except Nat D)}
  (FF:Fun K x qual st fa fd) (S:zV N ps (zI st))
  (hbody:∀ (cdv:Value) (A:Around) (outer:List Env) (s:Shared) (H:Hp) (E:XK),zAB k (A.deeper (envOfC qual (zI st) s.heap.objs.size fa cdv))->SXs (cxE P w K mg base N qual (zI st) fa cdv A outer s H E) κ E (z8 st) F)
  (hf:∀ ds r,ds.length=ps.length->f ds=some r->zRa N F ds=some r):zCe P w K mg base (CXE P w) (k+1) fa fd ps (spX K κ f ps.length):=by
 obtain ⟨oc,od,kV,doc,pm,an,cdv,ct,osl,rfl,lk,hcd⟩:=FF.ex
 refine zN4 lk hcd S (λvs H Q E h=>?_) λA outer s H vs Q E hr h=>?_
 ·obtain ⟨G,ds,d,_,r,hn,_⟩:=h
  rw [<- r.length,hn]
 ·obtain ⟨G,ds,r,sm,rp,hn,ef,kk⟩:=h
  refine ⟨_,hbody cdv A outer s H E hr,?_⟩
  obtain ⟨o,e1,e2⟩:=zUs.mp (hf ds r hn ef)
  have er:=zGY (N:=N) (H:=H) rp
  refine ⟨G,H,G,_,o,⟨er,⟨sm,zf.refl _,zf.refl _,λb o e n=>by rw [e] at n;cases n⟩,λi u a h1 h2 h3=>?_⟩,e1,?_⟩
  ·exfalso
   by_cases hi:i<ds.length
   ·rw [zVP (by simpa using hi),zVc] at h1
    cases q:ds[i]? with
    |none=>rw [q] at h1;cases h1
    |some d=>rw [q] at h1;cases h1;cases h2
   ·rw [zVW (by simpa using hi),zVo] at h1
    split at h1<;>cases h1
    cases h2
  ·cases o with
   |o x=>
    cases x with
    |rt d'=>
     cases e2
     exact λv G' H' b r'=>kk v G' H' ⟨b.gg,b.hh,b.gh,b.fr⟩ r'
    |nx ρ=>
     cases e2
     exact λσ' G' H' st'=>kk .non G' H' ⟨st'.bs.gg,st'.bs.hh,st'.bs.gh,st'.bs.fr⟩ (qp.mpr rfl)
    |bk ρ=>cases e2
    |ct ρ=>cases e2
    |ro ρ=>cases e2
    |rm d ρ=>cases e2
   |ex c=>
    cases e2
    exact λG' H' b=>kk G' H' ⟨b.gg,b.hh,b.gh,b.fr⟩
end
structure zTy (P:Program) (w:World) (K:Fg) (mg:MGt) (base:Heap) (κ:Nat->Addr) (k:Nat) (x:Str) (n:Nat) (F:List D->Option (Except Nat D)):Prop where
 ex:∃ f fd ps,zCe P w K mg base (CXE P w) k f fd ps (spX K κ F n)/\mg x=some (.ref f)/\PySem.W.keepIn K (.ref f)=true/\L2.zAx K fd ps []
section
variable {X:Cx} {κ:Nat->Addr} {W:XK} {e:Expr} {es:List Expr} {fl:ROl} {pos p cpos:Pos} {x y:Str} {k n:Nat} {f:List D->Option (Except Nat D)}
def tCx (K:Fg) (κ:Nat->Addr) (W:XK) (g:Rho->Option (Except Nat D)):TE:=λσ H Q=>∃ G ρ r,zf G H/\Er K G H ρ σ/\g ρ=some r/\match r with
 |.ok d=>∀ v G' H',zd G H G' H'->Rep K G' d v->Q v H'
 |.error c=>∀ G' H',zd G H G' H'->W (.ref (κ c)) none H'
theorem zMQ (h:zTy X.prog X.w X.K X.mg X.base κ k x n f) (hP:zBb (CXE X.prog X.w) X W) (hr:zAB k X.A) (hg:X.env.kindOf x=some .globalImplicit) (hn:(e::es).length=n) (ha:SA X (e::es) fl) (hdb:(x == ("__debug__" : Str))=false:=by decide)
  (he:starEach (e::es) X.env=(false,eval e X.env)::starEach es X.env:=by rfl) (hpl:(backTo pos (starEach es X.env)).any (·.1)=false:=by rfl) :
  PE X (.Call (.Name x p) (e::es) [] pos) (tCx X.K κ W λρ=>(fl ρ).bind f):=by
 obtain ⟨fa,fd,ps,FO,hm,hk,hb⟩:=h.ex
 refine zAy (zEW (E:=W) FO hr hg hm hk hb .nil hP ha.pa hdb he hpl) λσ H Q zz=>?_
 obtain ⟨G,ρ,r,s,er,ef,k⟩:=zz
 obtain ⟨xs,e1,e2⟩:=zUs.mp ef
 refine ⟨G,ρ,xs,s,er,e1,λvs G1 H1 t1 r1=>?_⟩
 show spX X.K κ f n (vs ++ []) H1 Q W
 rw [zVZ]
 refine ⟨G1,xs,r,t1.s,r1,by rw [ha.len _ _ e1,hn],e2,?_⟩
 cases r with
 |ok d=>exact λv G' H' t r=>k v G' H' (t1.trans t) r
 |error c=>exact λG' H' t=>k G' H' (t1.trans t)
def zMR (g:Rho->Option (Except Nat D)):Rho->Option zAp:=λρ=>(g ρ).map λr=>match r with
 |.ok _=>.o (.nx ρ)
 |.error c=>.ex c
theorem zRb {g:Rho->Option (Except Nat D)} (h:PE X e (tCx X.K κ W g)) (hs:swapsWith e none pos.line X.env=pure false:=by rfl):SX X κ W (.Expr e pos) (zMR g):=
 yY (zBq h hs) λE σ H=>by
  rintro ⟨G0,H0,G,ρ,o,st,ef,k⟩
  obtain ⟨r,e1,rfl⟩:=zUt.mp ef
  refine ⟨G,ρ,r,st.bs.gh,st.er,e1,?_⟩
  cases r with
  |ok d=>exact λv G' H' t r=>k σ G' H' (st.step t)
  |error c=>exact λG' H' t=>k G' H' (st.bs.step t)
def zOb (i:Nat) (g:Rho->Option (Except Nat D)):Rho->Option zAp:=λρ=>(g ρ).map λr=>match r with
 |.ok d=>.o (.nx (ρ.set i (.v d)))
 |.error c=>.ex c
theorem zTz (i:Nat) {pos':Pos} {g:Rho->Option (Except Nat D)} (h:PE X e (tCx X.K κ W g)) (hN:X.N.Nodup) (hi:X.N[i]?=some y) (hx:Loc X.env.scope y) (hs:swapsWith e (some (.Name y pos')) pos.line X.env=pure false:=by rfl)
  (hf:X.fn y=true\/X.env.scope.names.lookup y=some .local:=by first|exact .inl rfl|exact .inr rfl|assumption):SX X κ W (.Assign [.Name y pos'] e pos) (zOb i g):=
 yY (zDw hN hi hx h hs hf) λE σ H=>by
  rintro ⟨G0,H0,G,ρ,o,st,ef,k⟩
  obtain ⟨r,e1,rfl⟩:=zUt.mp ef
  refine ⟨G,ρ,r,st.bs.gh,st.er,e1,?_⟩
  cases r with
  |ok d=>exact λv G' H' t r=>k _ G' H' ((st.step t).setV r)
  |error c=>exact λG' H' t=>k G' H' (st.bs.step t)
end
section
variable {P:Program} {w:World} {K:Fg} {mg:MGt} {base:Heap} {N:List Str} {qual:Str} {scope:Scope} {fa:Addr} {cd:Value} {A:Around} {outer:List Env} {s₀:Shared} {H₀:Hp} {E:XK} {κ:Nat->Addr}
def zD0 (c:Nat) (fl:ROl):Rho->Option zAp:=λρ=>(fl ρ).map λ_=>.ex c
theorem zJq (c:Nat) {x:Str} {e:Expr} {fl:ROl} {np cpos pos:Pos} (hC:zRZ K (κ c)) (hg:Gl (cxE P w K mg base N qual scope fa cd A outer s₀ H₀ E) x) (hm:mg x=some (.ref (κ c))) (ha:SA (cxE P w K mg base N qual scope fa cd A outer s₀ H₀ E) [e] fl) (hd:(x == ("__debug__" : Str))=false:=by decide)
  (he:starEach [e] (cxE P w K mg base N qual scope fa cd A outer s₀ H₀ E).env=(false,eval e (cxE P w K mg base N qual scope fa cd A outer s₀ H₀ E).env)::starEach [] (cxE P w K mg base N qual scope fa cd A outer s₀ H₀ E).env:=by rfl)
  (hpl:(backTo cpos (starEach [] (cxE P w K mg base N qual scope fa cd A outer s₀ H₀ E).env)).any (·.1)=false:=by rfl) :
  SX (cxE P w K mg base N qual scope fa cd A outer s₀ H₀ E) κ E (.Raise (some (.Call (.Name x np) [e] [] cpos)) none pos) (zD0 c fl):=
 yY (zOZ hC hg hm ha.pa hd he hpl) λQ σ H=>by
  rintro ⟨G0,H0,G,ρ,o,st,ef,k⟩
  obtain ⟨xs,e1,rfl⟩:=zUt.mp ef
  refine ⟨G,ρ,xs,st.bs.gh,st.er,e1,λvs G1 H1 t1 r1=>⟨?_,k G1 H1 (st.bs.step t1)⟩⟩
  rw [<- r1.length,ha.len _ _ e1]
  exact zAc (by simp)
end
section
variable {X:Cx} {e:Expr} {f:ROd} {pos p1 p2 p3:Pos} {j1 j3}
def fsO (a b:Str):D->Option D
 |.int i=>if 0<=i/\i<1000000/\(Str.empty++a++((toString i:String):Str)++b).length<=1000000 then some (.str (Str.empty++a++((toString i:String):Str)++b)) else none
 |_=>none
theorem zMS {i:Int} (h0:0<=i) (h1:i<1000000):i.natAbs.log2<1920:=by
 by_cases z:i.natAbs=0
 ·rw [z];decide
 ·have h2:i.natAbs<2 ^ 20:=by omega
  have h3:=(Nat.log2_lt z).mpr h2
  omega
theorem app_len (a b:Str):(a++b).length=a.length+b.length:=by
 show (Str.append a b).length=_
 simp [Str.append,Str.length]
theorem zMT {a b:Str} (ha:SR X e f):SE X (.JoinedStr [.Constant (.str a) j1 p1,.FormattedValue e (-1) none p2,.Constant (.str b) j3 p3] pos) (b1 f (fsO a b)):=by
 intro pins s σ H Q I h
 obtain ⟨G,ρ,d,sm,er,ef,k⟩:=h
 obtain ⟨d1,e1,ef⟩:=zUs.mp ef
 cases d1 with
 |int i=>
  simp only [fsO] at ef
  split at ef
  ·rename_i hc
   obtain ⟨h0,h1,h2⟩:=hc
   cases ef
   rw [app_len,app_len,app_len] at h2
   refine JoinedStr_many (joinParts_cons (Calls.Constant_str ⟨by rw [app_len,zWZ];omega,?_⟩))
   refine joinParts_cons (FormattedValue_plain (thn (ha pins _ σ H (λv H'=>∃ G',zd G H G' H'/\zCE X.K G' H' (.int i) v) (I.tok _) ⟨G,ρ,_,sm,er,e1,λv G' H' t r=>⟨G',t,r⟩⟩) λv s2 zz=>?_))
   obtain ⟨x,H1,I1,rv,G',t1,r1⟩:=zz
   have hx:=r1.int
   subst hx
   obtain ⟨tk,rfl⟩:=(show ∃ t,v=Value.int i t from rv)
   refine formatField_int_small (zMS h0 h1) ⟨by rw [app_len,app_len,zWZ];omega,?_⟩
   refine joinParts_cons (Calls.Constant_str ⟨by rw [app_len,app_len,app_len,zWZ];omega,joinParts_nil ?_ (by rw [app_len,app_len,app_len,zWZ];omega)⟩)
   exact ⟨.str _,H1,I1.tok _,⟨_,rfl⟩,k _ G' H1 t1 (zAK.mpr rfl)⟩
  ·cases ef
 |_=>cases ef
end
structure zIj (X:Cx) (pins:PNt) (H:Hp) (x:Addr):Prop where
 h0:X.s₀.heap.get? x=none
 hH:H x=none
 hL:x≠X.env.locals
 hC:∀ y c,X.env.cells.lookup y=some c->c≠x
 hp:∀ p∈X.pn++pins,p.1≠x
section
variable {X:Cx} {pins:PNt} {σ:L2.St} {H H':Hp} {s s':Shared}
theorem zT0 (I:Inv X pins σ H s) (hex:X.ex = []) {x:Addr} (n:s.heap.get? x=none) (hH:H' x=none):zIj X pins H' x:=by
 refine ⟨?_,hH,λz=>?_,λy c e z=>?_,λp hp z=>?_⟩
 ·cases q:X.s₀.heap.get? x with
  |none=>rfl
  |some o=>
   obtain ⟨o',q'⟩:=I.base.there x o q (by rw [hex];simp)
   rw [n] at q';cases q'
 ·obtain ⟨m,⟨o,_,_,ho,_⟩,_⟩:=I.loc
  rw [z,ho] at n;cases n
 ·obtain ⟨v,o,ho,_⟩:=I.cell y c e
  rw [z,n] at ho;cases ho
 ·have:=(I.pin p hp).1
  rw [z,n] at this;cases this
theorem zMU (I:Inv X pins σ H s) {x T:Addr} {h':Heap} (nx:zIj X pins H x) (nT:zIj X pins H T) (st:Heap.StaysIn (PySem.W.hideAll s.heap (x::T::frs X.stack)) h') (up:s.heap.UpToSlots h'):Inv X pins σ H { s with heap:=h' }:=by
 have keep:∀ b o,s.heap.get? b=some o->b≠x->b≠T->b∉frs X.stack->h'.get? b=some o:=λb o e n1 n2 n3=>st b o (zWM _ e (by simp [n1,n2,n3]))
 have fr:∀ b o,s.heap.get? b=some o->b∈frs X.stack->∃ sl,h'.get? b=some { o with slots:=sl }:=λb o e m=>by
  obtain ⟨_,ob,ho,hd⟩:=I.stack.mem m
  rw [e] at ho;cases ho
  exact up b o e hd
 have any:∀ b o,s.heap.get? b=some o->b≠x->b≠T->∃ sl,h'.get? b=some { o with slots:=sl }:=λb o e n1 n2=>by
  by_cases m:b∈frs X.stack
  ·exact fr b o e m
  ·exact ⟨o.slots,keep b o e n1 n2 m⟩
 refine I.stepN (g':=s.gens) (t':=s.toks) (d':=s.drawn) (ch:=[x,T]) (λb hb=>?_) (λb o hL nf nc e n=>?_) (λb o _ _ nc e n=>?_) (λb o _ e n=>n) (λb o nc e=>?_) (λ_ _ e=>e) (λ_ _ _ e=>e) (λb ps e=>⟨#[],by rw [e];simp⟩) (λm hm=>?_) ?_ I.bare
 ·have:b=x\/b=T:=by simpa using hb
  rcases this with rfl|rfl
  ·exact ⟨.inr nx.h0,nx.hL,nx.hC,nx.hp⟩
  ·exact ⟨.inr nT.h0,nT.hL,nT.hC,nT.hp⟩
 ·have n':b≠x/\b≠T:=by simpa using nc
  exact keep b o e n'.1 n'.2 λz=>(zU1.mp (I.stkSub b z)).elim hL nf
 ·have n':b≠x/\b≠T:=by simpa using nc
  exact any b o e n'.1 n'.2
 ·have n':b≠x/\b≠T:=by simpa using nc
  obtain ⟨sl,q⟩:=any b o e n'.1 n'.2
  exact ⟨_,q⟩
 ·exact up.ns hm
 ·refine HOk.on I.hok λb u o e q=>?_
  refine keep b u q (λz=>?_) (λz=>?_) λz=>?_
  ·rw [z,nx.hH] at e;cases e
  ·rw [z,nT.hH] at e;cases e
  ·rw [I.stkFree b z] at e;cases e
end
section
variable {X:Cx} {κ:Nat->Addr} {e:Expr} {es:List Expr} {fl:ROl} {pos p:Pos} {x:Str} {k n:Nat} {f:List D->Option (Except Nat D)}
end
abbrev hdX (X:Cx) (y:Addr):Cx:={ X with A:=X.A.mark (some (.ref y)),calm:=false }
theorem zQH {X:Cx} {pins:PNt} {σ:L2.St} {H:Hp} {s:Shared} (I:Inv X pins σ H s) (y:Addr):Inv (hdX X y) pins σ H s:=
 ⟨⟨I.ok.mod,I.ok.kind,I.ok.glob,I.ok.blt,I.ok.above,I.ok.inj,I.ok.has,I.ok.cab,λz=>(by cases z),I.ok.frames,I.ok.stk,I.ok.exf,I.ok.bs,I.ok.bsz,I.ok.noex,I.ok.exfs,I.ok.funs,I.ok.frf⟩,I.os,I.bare,I.base,I.loc,I.cell,I.free,I.freeC,I.pin,I.hok,I.len⟩
theorem zEH {X:Cx} {pins:PNt} {σ:L2.St} {H:Hp} {s:Shared} {y:Addr} (ok:X.Ok) (I:Inv (hdX X y) pins σ H s):Inv X pins σ H s:=
 ⟨ok,I.os,I.bare,I.base,I.loc,I.cell,I.free,I.freeC,I.pin,I.hok,I.len⟩
theorem zRc {X:Cx} {pins:PNt} {D:zLR} {f:Flow} {s:Shared} {y:Addr} (ok:X.Ok) (h:SP (hdX X y) pins D f s):SP X pins D f s:=by
 cases f with
 |next=>obtain ⟨σ',H',I,q⟩:=h;exact ⟨σ',H',zEH ok I,q⟩
 |brk=>obtain ⟨σ',H',I,q⟩:=h;exact ⟨σ',H',zEH ok I,q⟩
 |cont=>obtain ⟨σ',H',I,q⟩:=h;exact ⟨σ',H',zEH ok I,q⟩
 |ret u=>obtain ⟨v,σ',H',I,r,q⟩:=h;exact ⟨v,σ',H',zEH ok I,r,q⟩
section
variable {X:Cx} {C:Addr} {xc:Str} {np hpos:Pos} {b₀:Stmt} {suite:List Stmt} {rest:List ExceptHandler} {th:TS}
theorem zT1 (hC:zRZ X.K C) (hg:Gl X xc) (hm:X.mg xc=some (.ref C)) (hst:X.stack=X.env::X.outer) (hfr:X.env.frame=some X.env.locals) {pins:PNt} {σ:L2.St} {H:Hp} {s:Shared} {y T:Addr} (I:Inv X pins σ H s) (fl:Fly X.stack y T (.ref C) s.heap) (ny:zIj X pins H y) (nT:zIj X pins H T)
  (hb:PSs (hdX X y).nox (b₀::suite) th) {D:zLR} (ht:th D σ H) {E:VSt} (hd:(xc == ("__debug__" : Str))=false:=by decide) :
  wpAny (model X.prog X.w) X.A (noteFrame (.ref y) X.env) (λ_ s₂=>wpAny (model X.prog X.w) X.A (setFlight (.ref y) none) (λ_ s₃=>
   wpAny (model X.prog X.w) X.A (handleBy (.ref y) X.env (.ExceptHandler (some (.Name xc np)) none (b₀::suite) hpos::rest)) (SP X pins D) E s₃) E s₂) E s:=by
 obtain ⟨a0,fl⟩:=fl
 have fl':=fl
 rw [hst] at fl
 have frm:=I.ok.frames
 rw [hst] at frm
 have stB:∀ h',Heap.StaysIn (PySem.W.hideAll s.heap (y::T::frs (X.env::X.outer))) h'->Heap.StaysIn (PySem.W.hideAll s.heap (y::T::frs X.stack)) h':=λh' z=>by rw [hst];exact z
 refine wpAny_looks_onW frm hfr fl λh4 held4 up4=>?_
 refine wpAny_landsW (s:={ s with heap:=h4 }) held4 λh5 fl5 up5=>?_
 have I5:Inv X pins σ H { s with heap:=h5 }:=zMU I ny nT (stB _ fl5.1) (up4.trans up5)
 obtain ⟨ob,hob,hobc⟩:=fl5.there
 refine wpAny_handleBy_cons (codeAny_handlers_test ?_) (by intro q;cases q)
 refine zGN (zQH I5 y) hg hm ?_ hd
 obtain ⟨bm,Nn,nm,qn,bs,hdct,sn,sub,ab,col,dd,k0,k1,k2,k3,k5,oN,o1,oN1,oAll⟩:=zMO hC
 have o4:=(oAll _ I5.kIn).2.2
 refine wpAny_excMatches_sub_self (I5.kIn _ _ o1) hob hobc (o4.hasType (by decide)) (codeAny_handlers_suite ?_)
 refine lands_againW (s:={ s with heap:=h5 }) fl5 λh6 fl6 up6=>?_
 have I6:Inv X pins σ H { s with heap:=h6 }:=zMU I ny nT (stB _ fl6.1) ((up4.trans up5).trans up6)
 exact zVk (hb pins _ σ H D ((zQH I6 y).wish _) ht) (λfw s2 q=>zRc I.ok (SP.unwish q)) λ_ _ z=>False.elim z
end
section
variable {X:Cx} {κ:Nat->Addr} {e:Expr} {es:List Expr} {fl:ROl} {pos p cpos epos np hpos:Pos} {x xc y:Str} {k n:Nat} {f:List D->Option (Except Nat D)} {b₀:Stmt} {suite:List Stmt} {Fh:ROo}
end
def zDc (ρ:Rho) (i:Nat):Option Ob:=match ρ[i]? with
 |some (.o _ x)=>some x
 |some (.b _ x)=>some x
 |_=>none
def zC6 (C:Addr) (f:Str):Ob->Option Fl
 |.ins C' fs=>if C'=C then fs.lookup f else none
 |_=>none
def zHH (C:Addr) (i:Nat) (f:Str) (ρ:Rho):Option Fl:=(zDc ρ i).bind (zC6 C f)
def flV:Fl->Option D
 |.v d=>some d
 |_=>none
def flR:Fl->Option D
 |.v d=>some d
 |.f (.l xs)=>some (.lst xs)
 |_=>none
theorem zCG {α:Type} {f:Str} {x:α}:∀ {fs:List (Str×α)},fs.lookup f=some x->(f,x)∈fs
 | [],h=>by cases h
 |(g,y)::fs,h=>by
  rw [zVM] at h
  split at h
  ·rename_i e
   have:=eq_of_beq e
   subst this
   cases h
   exact zU0 ..
  ·exact zUu _ (zCG h)
structure At (K:Fg) (G H:Hp) (x:Ob) (a:Addr):Prop where
 rep:zLu K G H x a
 nd:(fpO H x a).Nodup
 fr:∀ c∈fpO H x a,G c=none
section
variable {K:Fg} {G H G' H':Hp} {ρ:Rho} {σ:L2.St} {i:Nat} {x:Ob} {a C:Addr} {f:Str} {fl:Fl}
theorem zCH (e:Er K G H ρ σ) (h:zDc ρ i=some x):∃ a,σ[i]?=some (some (.ref a))/\At K G H x a:=by
 unfold zDc at h
 split at h
 ·rename_i c y q
  cases h
  obtain ⟨a,h1,h2,h3⟩:=e.slot i _ q rfl
  exact ⟨a,h1,h2.1.1,h2.1.2,h3⟩
 ·rename_i c y q
  cases h
  obtain ⟨a,h1,h2,h3⟩:=e.slot i _ q rfl
  exact ⟨a,h1,h2.1.1,h2.1.2,h3⟩
 ·cases h
theorem At.step (h:At K G H x a) (t:zd G H G' H'):At K G' H' x a:=by
 have q:=h.rep.same t.g λc m u z=>t.h _ _ z
 refine ⟨q.1,by rw [q.2];exact h.nd,λc m=>?_⟩
 rw [q.2] at m
 obtain ⟨u,e⟩:=h.rep.there c m
 cases z:G' c with
 |none=>rfl
 |some o=>have:=t.f c o z (h.fr c m);rw [e] at this;cases this
theorem At.fld (h:At K G H x a) (e:zC6 C f x=some fl):∃ dx ws u,H a=some (.ins C dx ws)/\ws.lookup f=some u/\zLG K G H fl u/\∀ c∈fpL H fl u,G c=none:=by
 cases x with
 |p y=>cases e
 |ins C' fs=>
  simp only [zC6] at e
  split at e
  ·rename_i z
   subst z
   obtain ⟨dx,ws,h1,h2,h3,h4⟩:=h.rep
   obtain ⟨u,q1,q2⟩:=h3 _ (zCG e)
   refine ⟨dx,ws,u,h1,q1,q2,λc m=>h.fr c ?_⟩
   simp only [fpO]
   rw [h1]
   exact zUu _ (zUu _ (zDW (zCG e) q1 m))
  ·cases e
end
section
variable {X:Cx} {o:Expr} {pos:Pos} {C:Addr} {f:Str} {i:Nat}
theorem zJr (i:Nat) (c:Cls X.K C) (n:qH X.K C f) (ho:PE X o (zBG i)) (hb:attributeBase o f X.env (eval o X.env)=eval o X.env:=by rfl):SR X (.Attribute o f pos) (λρ=>(zHH C i f ρ).bind flR):=
 zAy (zEV ho hb) λσ H Q=>by
  rintro ⟨G,ρ,d,s,er,ef,k⟩
  obtain ⟨fl,e1,e2⟩:=zUs.mp ef
  obtain ⟨x,e3,e4⟩:=zUs.mp e1
  obtain ⟨a,q1,A⟩:=zCH er e3
  obtain ⟨dx,ws,u,w1,w2,w3,w4⟩:=A.fld e4
  refine ⟨_,q1,a,C,dx,ws,u,rfl,w1,c,n,w2,k u G H (zd.refl s) ?_⟩
  cases fl with
  |v d'=>cases e2;exact .fr w3
  |f y=>
   cases y with
   |l xs=>
    cases e2
    obtain ⟨b,rfl,vs,z1,z2⟩:=w3
    exact .ow (w4 b (zUy.mpr rfl)) z1 z2
   |_=>cases e2
theorem zT2 (i:Nat) (c:Cls X.K C) (n:qH X.K C f) (ho:PE X o (zBG i)) (hb:attributeBase o f X.env (eval o X.env)=eval o X.env:=by rfl):SE X (.Attribute o f pos) (λρ=>(zHH C i f ρ).bind flV):=
 zAy (zEV ho hb) λσ H Q=>by
  rintro ⟨G,ρ,d,s,er,ef,k⟩
  obtain ⟨fl,e1,e2⟩:=zUs.mp ef
  obtain ⟨x,e3,e4⟩:=zUs.mp e1
  obtain ⟨a,q1,A⟩:=zCH er e3
  obtain ⟨dx,ws,u,w1,w2,w3,w4⟩:=A.fld e4
  refine ⟨_,q1,a,C,dx,ws,u,rfl,w1,c,n,w2,k u G H (zd.refl s) ?_⟩
  cases fl with
  |v d'=>cases e2;exact w3
  |f y=>cases e2
end
def spB (K:Fg) (f:Ob->List D->Option D) (n:Nat):Sp:=λvs H Q _=>∃ G x a ds ws d,vs = .ref a::ws/\zf G H/\At K G H x a/\Reps K G ds ws/\ds.length+1=n/\f x ds=some d/\∀ v G' H',zd G H G' H'->Rep K G' d v->Q v H'
def zNu (N:List Str) (F:ROo) (a:Addr) (x:Ob) (ds:List D):Option D:=(F ((.b a x::ds.map Sl.v)++List.replicate (N.length-(ds.length+1)) .un)).bind λo=>match o with
 |.rt d=>some d
 |.nx _=>some .non
 |_=>none
theorem zEr {K:Fg} {G H:Hp} {w:Sl} {a:Addr} {ds:List D} {vs:List V} (hw:w.isObj=true) (hr:zJg K G H w a) (hf:∀ c∈fpS H w a,G c=none) (r:Reps K G ds vs):Er K G H (w::ds.map Sl.v) ((V.ref a::vs).map some):=by
 have low:∀ {i:Nat} {s:Sl},(w::ds.map Sl.v)[i]?=some s->s.isObj=true->i=0/\s=w:=λ{i s} h o=>by
  cases i with
  |zero=>simp at h;exact ⟨rfl,h.symm⟩
  |succ i=>
   simp only [zVf,zVc] at h
   cases q:ds[i]? with
   |none=>rw [q] at h;cases h
   |some d=>rw [q] at h;cases h;cases o
 refine ⟨by simp [r.length],λi d h=>?_,λi s h o=>?_,λi j s t b c ne h1 o1 h2 o2=>?_⟩
 ·cases i with
  |zero=>simp at h;subst h;cases hw
  |succ i=>
   simp only [zVf,zVc] at h
   cases q:ds[i]? with
   |none=>rw [q] at h;cases h
   |some d'=>
    rw [q] at h;cases h
    obtain ⟨v,e1,e2⟩:=r.get q
    exact ⟨v,by simp [e1],e2⟩
 ·obtain ⟨rfl,rfl⟩:=low h o
  exact ⟨a,rfl,hr,hf⟩
 ·exact absurd ((low h1 (Sl.obj_of_own o1)).1.trans (low h2 o2).1.symm) ne
theorem zCI {N:List Str} {vs:List V}:L2.zBH N vs=vs.map some++List.replicate (N.length-vs.length) none:=by
 unfold L2.zBH;rfl
theorem zHp {P:Program} {w:World} {K:Fg} {mg:MGt} {base:Heap} {x qual:Str} {st:Stmt} {fa:Addr} {fd:FuncData} {N ps:List Str} {k:Nat} {F:ROo} {f:Ob->List D->Option D}
  (FF:Fun K x qual st fa fd) (S:zV N ps (zI st))
  (hbody:∀ (cdv:Value) (A:Around) (outer:List Env) (s:Shared) (H:Hp),zAB k (A.deeper (envOfC qual (zI st) s.heap.objs.size fa cdv))->SSs (zFS CX0 P w K mg base N qual (zI st) fa cdv A outer s H E0).nox (z8 st) F)
  (hf:∀ a y ds d,ds.length+1=ps.length->f y ds=some d->zNu N F a y ds=some d):zCe P w K mg base CX0 (k+1) fa fd ps (spB K f ps.length):=by
 refine FF.ok S (λvs H Q E h=>?_) (λcdv A outer s H vs Q E hr h=>?_)
 ·obtain ⟨G,y,a,ds,ws,d,rfl,_,_,r,hn,_⟩:=h
  rw [zUv,<- r.length,hn]
 ·obtain ⟨G,y,a,ds,ws,d,rfl,sm,hA,r,hn,ef,kk⟩:=h
  have h1:SSs (zFS CX0 P w K mg base N qual (zI st) fa cdv A outer s H E).nox (z8 st) F:=hbody cdv A outer s H hr
  refine ⟨_,h1,?_⟩
  obtain ⟨o,e1,e2⟩:=zUs.mp (hf a y ds d hn ef)
  have er0:Er K G H (.b a y::ds.map Sl.v) ((V.ref a::ws).map some):=zEr rfl ⟨⟨hA.rep,hA.nd⟩,rfl⟩ hA.fr r
  have er:=er0.app (N.length-(ds.length+1)) (List.replicate (N.length-(ds.length+1)) none) (by simp)
  have er:Er K G H ((.b a y::ds.map Sl.v)++List.replicate (N.length-(ds.length+1)) .un) (L2.zBH N (.ref a::ws)):=by
   rw [zCI,zUv,<- r.length];exact er
  have noown:∀ (i:Nat) (u:Sl),((.b a y::ds.map Sl.v)++List.replicate (N.length-(ds.length+1)) Sl.un)[i]?=some u->u.isOwn=true->False:=λi u h1 h2=>by
   have hm:=zVF h1
   rcases zU2.mp hm with m|m
   ·rcases zU1.mp m with z|m
    ·subst z;cases h2
    ·obtain ⟨d',_,rfl⟩:=zVT.mp m;cases h2
   ·rw [(zWd.mp m).2] at h2;cases h2
  refine ⟨G,H,G,_,o,⟨er,⟨sm,zf.refl _,zf.refl _,λb o e n=>by rw [e] at n;cases n⟩,λi u b h1 h2 h3=>(noown i u h1 h2).elim⟩,e1,?_⟩
  cases o with
  |rt d'=>
   cases e2
   exact λv G' H' b r'=>kk v G' H' ⟨b.gg,b.hh,b.gh,b.fr⟩ r'
  |nx ρ=>
   cases e2
   exact λσ' G' H' st'=>kk .non G' H' ⟨st'.bs.gg,st'.bs.hh,st'.bs.gh,st'.bs.fr⟩ (qp.mpr rfl)
  |bk ρ=>cases e2
  |ct ρ=>cases e2
  |ro ρ=>cases e2
  |rm d ρ=>cases e2
structure zIP (P:Program) (w:World) (K:Fg) (mg:MGt) (base:Heap) (C:Addr) (k:Nat) (m:Str) (n:Nat) (F:Ob->List D->Option D):Prop where
 ex:∃ f fd ps,zCe P w K mg base CX0 k f fd ps (spB K F n)/\zQv K C m f/\L2.zAx K fd ps []
def zBj (C:Addr) (m:Str):Ob->Bool
 |.ins C' fs=>decide (C'=C) && (fs.lookup m).isNone
 |_=>false
def qz (C:Addr) (m:Str) (i:Nat) (fl:ROl) (F:Ob->List D->Option D):ROd:=λρ=>(zDc ρ i).bind λx=>if zBj C m x=true then (fl ρ).bind λds=>F x ds else none
section
variable {X:Cx} {o e:Expr} {es:List Expr} {pos apos:Pos} {C:Addr} {m:Str} {i k n:Nat} {F:Ob->List D->Option D} {fl:ROl}
theorem zJs {K:Fg} {G H:Hp} {x:Ob} {a:Addr} (h:At K G H x a) (e:zBj C m x=true):∃ dx ws,H a=some (.ins C dx ws)/\ws.lookup m=none:=by
 cases x with
 |p y=>cases e
 |ins C' fs=>
  simp only [zBj,zVm,zWX,Option.isNone_iff_eq_none] at e
  obtain ⟨rfl,e⟩:=e
  obtain ⟨dx,ws,h1,_,_,h4⟩:=h.rep
  exact ⟨dx,ws,h1,h4.1 m e⟩
theorem zEs {pl:Sem Bool} (i:Nat) (h:zIP X.prog X.w X.K X.mg X.base C k m n F) (c:Cls X.K C) (hr:zAB k X.A) (ho:PE X o (zBG i)) (ha:SA X (e::es) fl) (hn:(e::es).length+1=n)
  (hst:starEach (e::es) X.env=(false,eval e X.env)::starEach es X.env:=by rfl) (hpl:(backTo pos (starEach es X.env)).any (·.1)=false:=by rfl)
  (ht:eval (.Call (.Attribute o m apos) (e::es) [] pos) X.env=(do
   let ov <- eval o X.env
   standAt apos.atName
   let (f,first) <- holding [ov] (getMethod ov m pl)
   callWith pos f first (backTo pos (starEach (e::es) X.env)) (backToKw pos (keywordEach [] X.env))):=by rfl) :
  SE X (.Call (.Attribute o m apos) (e::es) [] pos) (qz C m i fl F):=by
 obtain ⟨f,fd,ps,FO,hm,hb⟩:=h.ex
 refine zAy (zIY (pl:=pl) (dvs:=[]) (ds:=[]) (E:=E0) ho c hm FO hr hb .nil zIb ha.pa hst hpl ht) λσ H Q zz=>?_
 obtain ⟨G,ρ,d,s,er,ef,kk⟩:=zz
 obtain ⟨x,e1,ef⟩:=zUs.mp ef
 split at ef
 ·rename_i hx
  obtain ⟨ds,e2,e3⟩:=zUs.mp ef
  obtain ⟨a,q1,A⟩:=zCH er e1
  obtain ⟨dx,ws,q2,q3⟩:=zJs A hx
  refine ⟨_,q1,a,dx,ws,rfl,q2,q3,G,ρ,ds,s,er,e2,λvs G' H' t r=>?_⟩
  show spB X.K F n (V.ref a::(vs ++ [])) H' Q E0
  rw [zVZ]
  exact ⟨G',x,a,ds,vs,d,rfl,t.s,A.step t,r,by rw [ha.len _ _ e2];exact hn,e3,λv G2 H2 t2 r2=>kk v G2 H2 (t.trans t2) r2⟩
 ·cases ef
theorem zEI {pl:Sem Bool} (i:Nat) (h:zIP X.prog X.w X.K X.mg X.base C k m 1 F) (c:Cls X.K C) (hr:zAB k X.A) (ho:PE X o (zBG i))
  (ht:eval (.Call (.Attribute o m apos) [] [] pos) X.env=(do
   let ov <- eval o X.env
   standAt apos.atName
   let (f,first) <- holding [ov] (getMethod ov m pl)
   callWith pos f first (backTo pos (starEach [] X.env)) (backToKw pos (keywordEach [] X.env))):=by rfl) :
  SE X (.Call (.Attribute o m apos) [] [] pos) (qz C m i zO F):=by
 obtain ⟨f,fd,ps,FO,hm,hb⟩:=h.ex
 refine zAy (zN3 (pl:=pl) (dvs:=[]) (ds:=[]) (E:=E0) ho c hm FO hr hb .nil zIb ht) λσ H Q zz=>?_
 obtain ⟨G,ρ,d,s,er,ef,kk⟩:=zz
 obtain ⟨x,e1,ef⟩:=zUs.mp ef
 split at ef
 ·rename_i hx
  obtain ⟨a,q1,A⟩:=zCH er e1
  obtain ⟨dx,ws,q2,q3⟩:=zJs A hx
  exact ⟨_,q1,a,dx,ws,rfl,q2,q3,G,x,a,[],[],d,rfl,s,A,Reps.nil,rfl,ef,kk⟩
 ·cases ef
end
def qW (f:Str) (v:Fl):List (Str×Fl)->List (Str×Fl)
 | []=>[]
 |(g,y)::r=>if g == f then (g,v)::r else (g,y)::qW f v r
theorem zCj {f:Str} {y v:Fl}:∀ {fs:List (Str×Fl)},fs.lookup f=some y->∃ l1 l2,fs=l1++(f,y)::l2/\qW f v fs=l1++(f,v)::l2
 | [],h=>by cases h
 |(g,z)::fs,h=>by
  rw [zVM] at h
  by_cases e:g=f
  ·subst e
   rw [zVJ] at h
   cases h
   exact ⟨[],fs,rfl,by simp [qW]⟩
  ·have e':(f == g)=false:=zVd.mpr (Ne.symm e)
   have e2:(g == f)=false:=zVd.mpr e
   rw [e'] at h
   obtain ⟨l1,l2,h1,h2⟩:=zCj (v:=v) h
   exact ⟨(g,z)::l1,l2,by rw [h1];rfl,by simp only [qW,e2,h2];rfl⟩
theorem zEt {α β:Type} {x:Str}:∀ {fs:List (Str×α)} {gs:List (Str×β)},fs.map (·.1)=gs.map (·.1)->fs.lookup x=none->gs.lookup x=none
 | [],[],_,_=>rfl
 | [],_::_,h,_=>by cases h
 |_::_,[],h,_=>by cases h
 |(a,p)::fs,(b,q)::gs,h,e=>by
  simp only [zUx,zV9] at h
  obtain ⟨rfl,h⟩:=h
  rw [zVM] at e ⊢
  split at e
  ·cases e
  ·exact zEt h e
theorem zKq {α:Type} {P S S' B:List α} (h:(P++(S++B)).Nodup) (hS:S'.Nodup) (k:∀ c∈S',c∈S\/(c∉P/\c∉B)):(P++(S'++B)).Nodup:=by
 rw [zVn] at h ⊢
 obtain ⟨h1,h2,h3⟩:=h
 rw [zVn] at h2 ⊢
 obtain ⟨h4,h5,h6⟩:=h2
 refine ⟨h1,⟨hS,h5,λa ha b hb=>?_⟩,λa ha b hb=>?_⟩
 ·rcases k a ha with q|⟨_,q⟩
  ·exact h6 a q b hb
  ·intro z;subst z;exact q hb
 ·rcases zU2.mp hb with hb|hb
  ·rcases k b hb with q|⟨q,_⟩
   ·exact h3 a ha b (zVi _ q)
   ·intro z;subst z;exact q ha
  ·exact h3 a ha b (zVD _ hb)
theorem zIk {H:Hp} {l1 l2:List (Str×Fl)} {ws:List (Str×V)} {f:Str} {y:Fl} {u:V} (e:ws.lookup f=some u):fpW H (l1++(f,y)::l2) ws=fpW H l1 ws++(fpL H y u++fpW H l2 ws):=by
 unfold fpW
 rw [zXO,zVX,e]
section
variable {K:Fg} {G0 H0 G H H':Hp} {ρ:Rho} {σ:L2.St} {i:Nat} {a b C dx:Addr} {c:Option Addr} {f:Str} {fs:List (Str×Fl)} {ws:List (Str×V)} {y y':Fd}
theorem At.mutF (h:At K G H (.ins C fs) a) (ha:H a=some (.ins C dx ws)) (hl:fs.lookup f=some (.f y)) (hw:ws.lookup f=some (.ref b))
  (hH:∀ p u,p∉fpF H y b->H p=some u->H' p=some u) (hr:zGV K G H' y' b) (hn:(fpF H' y' b).Nodup) (hf:∀ p∈fpF H' y' b,(p∈fpF H y b\/H p=none)/\G p=none) :
  At K G H' (.ins C (qW f (.f y') fs)) a/\∀ p∈fpO H' (.ins C (qW f (.f y') fs)) a,p∈fpO H (.ins C fs) a\/H p=none:=by
 obtain ⟨l1,l2,e1,e2⟩:=zCj (v:=.f y') hl
 obtain ⟨dx',ws',z1,z2,z3,z4⟩:=h.rep
 rw [ha] at z1
 cases z1
 have hnd:=h.nd
 have eO:fpO H (.ins C fs) a=(a::dx::fpW H l1 ws)++(fpF H y b++fpW H l2 ws):=by
  simp only [fpO];rw [ha];simp only [inI];rw [e1,zIk hw];rfl
 rw [eO] at hnd
 have fr:=h.fr
 rw [eO] at fr
 have thr:=h.rep.there
 rw [eO] at thr
 obtain ⟨n1,n2,n3⟩:=zVn.mp hnd
 obtain ⟨n4,n5,n6⟩:=zVn.mp n2
 have offP:∀ p,p∈a::dx::fpW H l1 ws->p∉fpF H y b:=λp m q=>n3 p m p (zVi _ q) rfl
 have offB:∀ p,p∈fpW H l2 ws->p∉fpF H y b:=λp m q=>n6 p q p m rfl
 have stay:∀ (q:Str×Fl),(q∈l1\/q∈l2)->∃ u,ws.lookup q.1=some u/\zLG K G H' q.2 u/\fpL H' q.2 u=fpL H q.2 u:=λq m=>by
  obtain ⟨u,r1,r2⟩:=z3 q (by rw [e1];rcases m with m|m;exact zVi _ m;exact zVD _ (zUu _ m))
  refine ⟨u,r1,r2.same (zf.refl _) λp mp v zz=>hH p v ?_ zz⟩
  rcases m with m|m
  ·exact offP p (zUu _ (zUu _ (zDW m r1 mp)))
  ·exact offB p (zDW m r1 mp)
 have ha':H' a=some (.ins C dx ws):=hH a _ (offP a (zU0 ..)) ha
 have hd':H' dx=some (.own a):=hH dx _ (offP dx (zUu _ (zU0 ..))) z2
 have w1:fpW H' l1 ws=fpW H l1 ws:=zGW λq m=>let ⟨u,r1,_,r3⟩:=stay q (.inl m);⟨u,r1,r3⟩
 have w2:fpW H' l2 ws=fpW H l2 ws:=zGW λq m=>let ⟨u,r1,_,r3⟩:=stay q (.inr m);⟨u,r1,r3⟩
 have eN:fpO H' (.ins C (qW f (.f y') fs)) a=(a::dx::fpW H l1 ws)++(fpF H' y' b++fpW H l2 ws):=by
  simp only [fpO];rw [ha'];simp only [inI];rw [e2,zIk hw,w1,w2];rfl
 have keys:fs.map (·.1)=(qW f (.f y') fs).map (·.1):=by rw [e2,e1];simp
 refine ⟨⟨⟨dx,ws,ha',hd',λq m=>?_,λx e=>z4.1 x (zEt keys.symm e),by have:=zVw List.length keys;simp only [zU4] at this;rw [<- this];exact z4.2⟩,?_,λp m=>?_⟩,λp m=>?_⟩
 ·rw [e2] at m
  rcases zU2.mp m with m|m
  ·obtain ⟨u,r1,r2,_⟩:=stay q (.inl m);exact ⟨u,r1,r2⟩
  ·rcases zU1.mp m with m|m
   ·subst m;exact ⟨_,hw,b,rfl,hr⟩
   ·obtain ⟨u,r1,r2,_⟩:=stay q (.inr m);exact ⟨u,r1,r2⟩
 ·rw [eN]
  refine zKq hnd hn λp m=>?_
  rcases (hf p m).1 with q|q
  ·exact .inl q
  ·refine .inr ⟨λz=>?_,λz=>?_⟩
   ·obtain ⟨u,e⟩:=thr p (zVi _ z);rw [q] at e;cases e
   ·obtain ⟨u,e⟩:=thr p (zVD _ (zVD _ z));rw [q] at e;cases e
 ·rw [eN] at m
  rcases zU2.mp m with m|m
  ·exact fr p (zVi _ m)
  ·rcases zU2.mp m with m|m
   ·exact (hf p m).2
   ·exact fr p (zVD _ (zVD _ m))
 ·rw [eN] at m
  rw [eO]
  rcases zU2.mp m with m|m
  ·exact .inl (zVi _ m)
  ·rcases zU2.mp m with m|m
   ·rcases (hf p m).1 with q|q
    ·exact .inl (zVD _ (zVi _ q))
    ·exact .inr q
   ·exact .inl (zVD _ (zVD _ m))
theorem zRd (ha:H a=some (.ins C dx ws)) (hl:fs.lookup f=some (.f y)) (hw:ws.lookup f=some (.ref b)):∀ p∈fpF H y b,p∈fpO H (.ins C fs) a:=λp m=>by
 simp only [fpO];rw [ha]
 exact zUu _ (zUu _ (zDW (zCG hl) hw m))
theorem StR.mutF (s:StR K G0 H0 G H ρ σ) (hu:ρ[i]?=some (.o c (.ins C fs))) (hl:fs.lookup f=some (.f y)) (hσ:σ[i]?=some (some (.ref a))) (ha:H a=some (.ins C dx ws)) (hw:ws.lookup f=some (.ref b))
  (hGH:zf G H') (hH:∀ p u,p∉fpF H y b->H p=some u->H' p=some u) (hr:zGV K G H' y' b) (hn:(fpF H' y' b).Nodup) (hf:∀ p∈fpF H' y' b,(p∈fpF H y b\/H p=none)/\G p=none) :
  StR K G0 H0 G H' (ρ.set i (.o c (.ins C (qW f (.f y') fs)))) σ:=by
 obtain ⟨a',h1,h2,h3⟩:=s.er.slot i _ hu rfl
 rw [hσ] at h1;cases h1
 have A:At K G H (.ins C fs) a:=⟨h2.1.1,h2.1.2,h3⟩
 obtain ⟨A',sub⟩:=A.mutF ha hl hw hH hr hn hf
 exact s.mutG hu rfl rfl hσ (zf.refl _) hGH (λp o e n=>by rw [n] at e;cases e) (λp o e n=>hH p o (λz=>n (zRd ha hl hw p z)) e) ⟨⟨A'.rep,A'.nd⟩,h2.2⟩ λp m=>⟨sub p m,A'.fr p m⟩
theorem StR.fldAt (s:StR K G0 H0 G H ρ σ) (hu:ρ[i]?=some (.o c (.ins C fs))) (hl:fs.lookup f=some (.f y)):∃ a dx ws b,σ[i]?=some (some (.ref a))/\H a=some (.ins C dx ws)/\ws.lookup f=some (.ref b)/\zGV K G H y b/\(∀ p∈fpF H y b,G p=none)/\(fpF H y b).Nodup:=by
 obtain ⟨a,h1,h2,h3⟩:=s.er.slot i _ hu rfl
 have A:At K G H (.ins C fs) a:=⟨h2.1.1,h2.1.2,h3⟩
 obtain ⟨dx,ws,u,q1,q2,⟨b,rfl,q3⟩,q4⟩:=A.fld (C:=C) (f:=f) (fl:=.f y) ((zVE rfl).trans hl)
 refine ⟨a,dx,ws,b,h1,q1,q2,q3,q4,?_⟩
 obtain ⟨l1,l2,e1,e2⟩:=zCj (v:=.f y) hl
 have nd:=A.nd
 simp only [fpO] at nd
 rw [q1] at nd
 simp only [inI] at nd
 rw [e1,zIk q2] at nd
 have nd:((a::dx::fpW H l1 ws)++(fpF H y b++fpW H l2 ws)).Nodup:=nd
 exact (zVn.mp (zVn.mp nd).2.1).1
end
end RD
namespace PySem
theorem zBk {prog:Program} {w:World} {K:Type} [DecidableEq K] {knd:HeapKind prog w K} {A:Around} {E:VSt} {s:Shared} {d a:Addr} {xs:List (K×Addr×Value)} {k:K} {v:Value} {Q:VSt} (hu:knd.room A) (hkey:knd.is s.heap k a) (hm:s.heap.DictOfH knd d xs)
  (h1:∀ p,atKey xs k=some p->Q p.2 { s with toks:=s.toks+knd.draws k })
  (hQ:atKey xs k=none->∀ h',h'.DictOfH knd d (storedH xs k a v)->Heap.SameBut d s.heap h'->Q v { s with heap:=h',toks:=s.toks+knd.draws k })
  (hsz:xs.length<=sizeLine):wpAny (model prog w) A (dictSetDefault d (.ref a) v) Q E s:=by
 obtain ⟨o,es,ep,ho,hc,hd,he,his,hn⟩:=hm
 unfold dictSetDefault
 try with_reducible refine zWQ ?_
 refine zUz (knd.pyHash hu hkey (zUz (wpAny_dictFind_heap (s:={ s with toks:=s.toks+knd.draws k }) hu hkey ho hd he his hn ?_ ?_)))
 ·intro hno
  have hnot:k∉xs.map (·.1):=not_mem_keys_of_get hno
  refine zUz (wpAny_rule (zUz (wpAny_updateDictKeys (hz:=by have e:=size_of_entries he;omega) (s:={ s with toks:=s.toks+knd.draws k }) ho hd (zU6 (hQ (zW5 hno) _ ⟨_,_,ep+1,zXA _ ho (Obj.isFreed_of_dict (Obj.data_mapDictKeys hd _)),
   hc.mapDictKeys _,Obj.data_mapDictKeys hd _,?_,?_,?_⟩ (Heap.SameBut.update ..))))))
  ·rw [storedH_new (zW5 hno)]
   simp [he,entryOfKey]
  ·rw [storedH_new (zW5 hno)]
   intro x hx
   rcases zU2.mp hx with hx|hx
   ·exact knd.keeps (his x hx) ho hd (Heap.SameBut.update ..)
   ·simp only [zUy] at hx
    subst hx
    exact knd.keeps hkey ho hd (Heap.SameBut.update ..)
  ·rw [storedH_new (zW5 hno)]
   rw [zVK,zVn]
   refine ⟨hn,by simp,?_⟩
   intro x hx y hy
   simp only [zUx,zV7,zUy] at hy
   subst hy
   exact λe=>hnot (e ▸ hx)
 ·intro j p hj
  refine zUz (wpAny_dictEntries (s:={ s with toks:=s.toks+knd.draws k }) ho hd ?_)
  rw [entry_at he j,hj]
  exact zUz (wpAny_rule (zU6 (h1 p (atKey_of_get hn hj))))
theorem qJ {prog:Program} {w:World} {K:Type} [DecidableEq K] (knd:HeapKind prog w K) (d a:Addr) (hd:(d == sysModules)=false) (dflt:Value) :
  MeetsIn prog w (Builtin.«dict.setdefault» ⟨[.ref d,.ref a,dflt],[]⟩) (λA R s=>knd.room A.in1/\∃ k xs,knd.is s.heap k a/\s.heap.DictOfH knd d xs/\xs.length<=sizeLine /\
   (∀ p,atKey xs k=some p->R (.ok (.ret p.2)) { s with toks:=s.toks+knd.draws k }) /\
   (atKey xs k=none->∀ h',h'.DictOfH knd d (storedH xs k a dflt)->Heap.SameBut d s.heap h'->R (.ok (.ret dflt)) { s with heap:=h',toks:=s.toks+knd.draws k })):=
 .of_wp λA R s=>by
  rintro ⟨hu,k,xs,hkey,hm,hz,h1,h2⟩
  unfold Builtin.«dict.setdefault»
  refine zUz ?_
  unfold Builtin.Dict.keyAndDefault
  refine zUz (wpAny_notOrdered_dict hm.typeIs ?_)
  show wpAny _ _ (pure (d,Value.ref a,some dflt)) _ _ s
  refine zU6 ?_
  show wpAny _ _ (if (d == sysModules)=true then _ else (dictSetDefault d (.ref a) dflt >>= _)) _ _ s
  rw [zVe (by rw [hd];exact zVV)]
  exact zUz (zBk hu hkey hm (λv hv=>zU6 ⟨_,rfl,h1 v hv⟩) (λhn h' hm' hs'=>zU6 ⟨dflt,rfl,h2 hn h' hm' hs'⟩) hz)
end PySem
namespace RD
open PySem PySem.Spec PyProof.Rows L2
def rSetD:V->List V->Hp->VK->Prop:=λx vs H Q=>∃ a y z,x = .ref a/\vs = [y,z]/\((∃ v,zDJ H a y (some v)/\((∃ kvs,H a=some (.dK kvs))\/∃ kvs,H a=some (.dT kvs))/\Q v H)\/(zDJ H a y none/\∃ H',zLl H a y z H'/\Q z H'))
section
variable {X:Cx}
theorem zC7 (hu:X.A.units+1<cLine):MtM X "dict.setdefault" rSetD:=by
 intro pins s σ H x vs v us Q I rx rv h
 obtain ⟨a,y,z,rfl,rfl,h⟩:=h
 cases rx
 obtain ⟨u,r,rfl,ru,rr⟩:=rv.two
 rcases h with ⟨v,g,hm,q⟩|⟨g,H',hp,q⟩
 ·rcases hm with ⟨kvs',em⟩|⟨kvs',em⟩
  ·rcases g with ⟨kvs,k,e,ey,l⟩|⟨kvs,k,b,e,ey,eb,l⟩
   ·subst ey
    obtain ⟨zz,hd,vs,rel,dd⟩:=zHT I.hok e
    have hz:vs.length<=sizeLine:=by rw [<- rel.length];exact zz
    obtain ⟨w',hw,rw'⟩:=zFR.some_of (v:=v) (o:=valueAt vs k) (by rw [l];exact rel.val k)
    exact zXF zVv dd.typeIs zWH (zWF _ _ _) (kt_meets_setdefault (z6 X.prog X.w) a (zGS ru) hd r)
     ⟨vs,dd,hz,(λv' hv'=>by rw [hw] at hv';cases hv';exact ⟨v,H,I.tok _,rw',q⟩),(λhn=>by rw [hw] at hn;cases hn)⟩
   ·rcases e with e|⟨o,e⟩<;>(rw [em] at e;cases e)
  ·rcases g with ⟨kvs,k,e,ey,l⟩|⟨kvs,k,b,e,ey,eb,l⟩
   ·rcases e with e|⟨o,e⟩<;>(rw [em] at e;cases e)
   ·subst ey
    cases (show u=Value.ref b from ru)
    obtain ⟨zz,hd,xs,rel,dd⟩:=zHU I.hok e
    have hz:xs.length<=sizeLine:=by rw [<- zWl rel];exact zz
    obtain ⟨w',hw,rw'⟩:=zFR.some_of (v:=v) (o:=(atKey xs k).map (·.2)) (by rw [l];exact rel.val k)
    obtain ⟨p,hp,hp2⟩:=zUt.mp hw
    exact zXF zVv dd.typeIs zWH (zWF _ _ _) (qJ (tupleKind (z6 X.prog X.w)) a b hd r)
     ⟨zWG hu,k,xs,zCt I.hok eb,dd,hz,(λp' hp'=>by rw [hp] at hp';cases hp';exact ⟨v,H,I.tok _,by rw [hp2];exact rw',q⟩),(λhn=>by rw [hp] at hn;cases hn)⟩
 ·rcases hp with ⟨kvs,k,e,ey,l,eH⟩|⟨kvs,k,b,e,ey,eb,l,eH⟩
  ·subst ey eH
   have hv:zAm kvs k=none:=by
    rcases g with ⟨kvs',k',e',ey',l'⟩|⟨kvs',k',b',e',ey',eb',l'⟩
    ·rcases e' with e' | ⟨o,e'⟩
     ·rw [e] at e';cases e'
      have:k=k':=by cases k<;>cases k'<;>simp [kV] at ey'<;>rw [ey']
      subst this;exact l'.symm
     ·rw [e] at e';cases e'
    ·rcases e' with e' | ⟨o,e'⟩<;>(rw [e] at e';cases e')
   obtain ⟨zz,hd,vs,rel,dd⟩:=zQ9 I.hok e
   have hz:vs.length<=sizeLine:=by rw [<- rel.length];exact zz
   have hl:(zCQ kvs k z).length<=sizeLine:=by have:=zAJ kvs k z;omega
   have hn:valueAt vs k=none:=zFR.none_of (by rw [<- hv];exact rel.val k)
   refine zXF zVv dd.typeIs zWH (zWF _ _ _) (kt_meets_setdefault (z6 X.prog X.w) a (zGS ru) hd r)
     ⟨vs,dd,hz,(λv' hv'=>by rw [hn] at hv';cases hv'),(λ_ h' dd' hs=>?_)⟩
   have he:∃ q,h'.get? a=some q:=let ⟨q,_,_,hq,_⟩:=dd';⟨q,hq⟩
   exact ⟨z,_,zEZ I (by rw [e];exact True.intro) hs he (zPy hl hd (rel.put k rr) dd'),rr,q⟩
  ·subst ey eH
   cases (show u=Value.ref b from ru)
   have hv:zAm kvs k=none:=by
    rcases g with ⟨kvs',k',e',ey',l'⟩|⟨kvs',k',b',e',ey',eb',l'⟩
    ·rcases e' with e' | ⟨o,e'⟩<;>(rw [e] at e';cases e')
    ·cases ey'
     rcases e' with e' | ⟨o,e'⟩
     ·rw [e] at e';cases e'
      rw [eb] at eb'
      have:k.map kV=k'.map kV:=by injection eb' with z;injection z
      have:k=k':=zLk this
      subst this;exact l'.symm
     ·rw [e] at e';cases e'
   obtain ⟨zz,hd,xs,rel,dd⟩:=zRA I.hok e
   have hz:xs.length<=sizeLine:=by rw [<- zWl rel];exact zz
   have hl:(zCQ kvs k z).length<=sizeLine:=by have:=zAJ kvs k z;omega
   have hn:atKey xs k=none:=by
    have:=zFR.none_of (o:=(atKey xs k).map (·.2)) (by rw [<- hv];exact rel.val k)
    simpa using this
   refine zXF zVv dd.typeIs zWH (zWF _ _ _) (qJ (tupleKind (z6 X.prog X.w)) a b hd r)
     ⟨zWG hu,k,xs,zCt I.hok eb,dd,hz,(λp' hp'=>by rw [hn] at hp';cases hp'),(λ_ h' dd' hs=>?_)⟩
   obtain ⟨q',es,ep,hq,h2,h3,h4,_,h5⟩:=dd'
   refine ⟨z,_,zEZ (ob:=.dT (zCQ kvs k z)) I (by rw [e];exact True.intro) hs ⟨q',hq⟩ ⟨hl,hd,_,(rel.put k eb rr).keeps λc ys ec=>?_,q',es,ep,hq,h2,h3,h4,h5⟩,rr,q⟩
   rw [zJ (zQf ec e (λz=>nomatch z))]
   exact ec
end
def zMV:List D->Option (List Key)
 | []=>some []
 |d::r=>(zFs d).bind λk=>(zMV r).map (k :: ·)
def zMW:D->Option (List Key)
 |.tup ds=>zMV ds
 |_=>none
theorem zHq {K:Fg} {G:Hp}:∀ {ds:List D} {ks:List Key} {vs:List V},zMV ds=some ks->Reps K G ds vs->vs=ks.map kV
 | [],ks,vs,h,r=>by cases h;exact yP.mp r
 |d::ds,ks,vs,h,r=>by
  obtain ⟨k,e1,h⟩:=zUs.mp h
  obtain ⟨l,e2,rfl⟩:=zUt.mp h
  obtain ⟨v,t,rfl,a,b⟩:=za.mp r
  rw [zBv e1 a,zHq e2 b];rfl
theorem zBM {K:Fg} {G:Hp} {d:D} {ks:List Key} {v:V} (h:zMW d=some ks) (r:Rep K G d v):∃ b,v = .ref b/\G b=some (.tup (ks.map kV)):=by
 cases d with
 |tup ds=>
  obtain ⟨a,vs,e,q,w⟩:=zBI.mp r
  rw [zHq h w] at q
  exact ⟨a,e,q⟩
 |_=>cases h
def zAv {κ:Type} [DecidableEq κ] {α:Type} (kvs:List (κ×α)) (k:κ):Option α:=(kvs.find? λkv=>decide (kv.1=k)).map (·.2)
def zCk {κ:Type} [DecidableEq κ] {α:Type} (k:κ) (x:α):List (κ×α)->List (κ×α)
 | []=>[]
 |q::r=>if q.1=k then (q.1,x)::r else q::zCk k x r
theorem zA2 {κ:Type} [DecidableEq κ] {α:Type} {k:κ} {x:α}:∀ (kvs:List (κ×α)),(zCk k x kvs).map (·.1)=kvs.map (·.1)
 | []=>rfl
 |q::r=>by
  unfold zCk
  split
  ·rfl
  ·simp [zA2 r]
section
variable {K:Fg} {G H H':Hp} {κ:Type} [DecidableEq κ]
theorem yF.get {k:κ}:∀ {kvs:List (κ×List D)} {ws:List (κ×V)},kvs.map (·.1)=ws.map (·.1)->yF K G H (kvs.map (·.2)) (ws.map (·.2))->(zAv kvs k=none/\zAm ws k=none)\/∃ xs b us,zAv kvs k=some xs/\zAm ws k=some (.ref b)/\H b=some (.lst us)/\Reps K G xs us/\b∈zDK ws
 | [],[],_,_=>.inl ⟨rfl,rfl⟩
 | [],_::_,h,_=>by cases h
 |_::_,[],h,_=>by cases h
 |(k1,x)::kvs,(k2,w)::ws,h,r=>by
  simp only [zUx,zV9] at h
  obtain ⟨rfl,h⟩:=h
  simp only [zUx,yF] at r
  obtain ⟨b,us,t,e,e2,r1,r2⟩:=r
  cases e
  by_cases hk:k1=k
  ·right
   refine ⟨x,b,us,?_,?_,e2,r1,qB.mpr (zU0 ..)⟩
   ·simp [zAv,hk]
   ·simp [zAm,hk]
  ·rcases yF.get (k:=k) h r2 with ⟨q1,q2⟩|⟨xs,b',us',q1,q2,q3,q4,q5⟩
   ·left
    constructor
    ·simpa [zAv,hk] using q1
    ·simpa [zAm,hk] using q2
   ·right
    refine ⟨xs,b',us',?_,?_,q3,q4,qB.mpr (zUu _ (qB.mp q5))⟩
    ·simpa [zAv,hk] using q1
    ·simpa [zAm,hk] using q2
theorem yF.set {k:κ} {b:Addr} {xs':List D} {us':List V} (hb:H' b=some (.lst us')) (hr:Reps K G xs' us') (hH:∀ p o,p≠b->H p=some o->H' p=some o):∀ {kvs:List (κ×List D)} {ws:List (κ×V)},kvs.map (·.1)=ws.map (·.1)->yF K G H (kvs.map (·.2)) (ws.map (·.2))->(zDK ws).Nodup->zAm ws k=some (.ref b)->yF K G H' ((zCk k xs' kvs).map (·.2)) (ws.map (·.2))
 | [],[],_,_,_,h=>by cases h
 | [],_::_,h,_,_,_=>by cases h
 |_::_,[],h,_,_,_=>by cases h
 |(k1,x)::kvs,(k2,w)::ws,h,r,n,g=>by
  simp only [zUx,zV9] at h
  obtain ⟨rfl,h⟩:=h
  simp only [zUx,yF] at r
  obtain ⟨c,us,t,e,e2,r1,r2⟩:=r
  cases e
  have n':(c::zDK ws).Nodup:=n
  have hn:=zVa.mp n'
  by_cases hk:k1=k
  ·have:c=b:=by
    simp [zAm,hk] at g
    exact g
   subst this
   have es:zCk k xs' ((k1,x)::kvs)=(k1,xs')::kvs:=by simp [zCk,hk]
   rw [es]
   simp only [zUx,yF]
   refine ⟨c,us',_,rfl,hb,hr,r2.same (zf.refl _) λp m o z=>hH p o (λq=>?_) z⟩
   subst q
   exact hn.1 (qB.mpr m)
  ·have g':zAm ws k=some (.ref b):=by simpa [zAm,hk] using g
   have es:zCk k xs' ((k1,x)::kvs)=(k1,x)::zCk k xs' kvs:=by simp [zCk,hk]
   rw [es]
   simp only [zUx,yF]
   have hc:c≠b:=λq=>by
    subst q
    rcases yF.get (k:=k) h r2 with ⟨_,q2⟩|⟨_,b',_,_,q2,_,_,q5⟩
    ·rw [g'] at q2;cases q2
    ·rw [g'] at q2;cases q2;exact hn.1 q5
   exact ⟨c,us,_,rfl,hH c _ hc e2,r1,yF.set hb hr hH h r2 hn.2 g'⟩
theorem yF.snoc {b:Addr} {xs:List D} {us:List V} (hb:H b=some (.lst us)) (hr:Reps K G xs us):∀ {l:List (List D)} {vs:List V},yF K G H l vs->yF K G H (l ++ [xs]) (vs ++ [.ref b])
 | [],_,h=>by simp only [yF] at h;subst h;simp only [zWA,yF];exact ⟨b,us,[],rfl,hb,hr,rfl⟩
 |x::l,_,h=>by
  simp only [yF] at h
  obtain ⟨c,vs',t,rfl,e,r,q⟩:=h
  simp only [zVy,yF]
  exact ⟨c,vs',_,rfl,e,r,yF.snoc hb hr q⟩
end
def zHr (C:Addr) (i:Nat) (f:Str) (ρ:Rho):Option (Option Addr×List (Str×Fl)×Fd):=match ρ[i]? with
 |some (.o c (.ins C' fs))=>if C'=C then (match fs.lookup f with
  |some (.f y)=>some (c,fs,y)
  |_=>none) else none
 |_=>none
theorem zEJ {C:Addr} {i:Nat} {f:Str} {ρ:Rho} {c:Option Addr} {fs:List (Str×Fl)} {y:Fd} (h:zHr C i f ρ=some (c,fs,y)):ρ[i]?=some (.o c (.ins C fs))/\fs.lookup f=some (.f y):=by
 unfold zHr at h
 split at h
 ·rename_i q
  split at h
  ·rename_i z
   subst z
   split at h
   ·rename_i l
    cases h
    exact ⟨q,l⟩
   ·cases h
  ·cases h
 ·cases h
def zEu (C:Addr) (i:Nat) (f:Str) (c:Option Addr) (fs:List (Str×Fl)) (y:Fd) (ρ:Rho):Rho:=ρ.set i (.o c (.ins C (qW f (.f y) fs)))
section
variable {X:Cx} {o a:Expr} {pos apos cpos:Pos} {C:Addr} {f:Str} {fe:ROd}
def zOc (C:Addr) (i:Nat) (f:Str) (fe:ROd):ROo:=λρ=>(zHr C i f ρ).bind λq=>match q.2.2 with
 |.l xs=>if xs.length<1000000 then (fe ρ).map λd=>.nx (zEu C i f q.1 q.2.1 (.l (xs ++ [d])) ρ) else none
 |_=>none
theorem zRe (i:Nat) (c:Cls X.K C) (n:qH X.K C f) (ho:PE X o (zBG i)) (ha:SE X a fe) (hb:attributeBase o f X.env (eval o X.env)=eval o X.env:=by rfl) {fpos:Pos}
  (hbase:attributeBase (.Attribute o f fpos) "append" X.env (eval (.Attribute o f fpos) X.env)=eval (.Attribute o f fpos) X.env:=by rfl)
  (hfew:((backTo cpos (starEach [a] X.env)).all (λx=>!x.1) && (backToKw cpos (keywordEach [] X.env)).all (λx=>x.1.isSome)
   && decide ([a].length+([]:List Keyword).length+(if ([]:List Keyword).isEmpty then 0 else 1)<30))=true:=by rfl)
  (hline:(apos.endLine == cpos.line)=true:=by rfl) (hs:starEach [a] X.env=(false,eval a X.env)::starEach [] X.env:=by rfl) (hplain:(backTo cpos (starEach [] X.env)).any (·.1)=false:=by rfl)
  (hsw:swapsWith (.Call (.Attribute (.Attribute o f fpos) "append" apos) [a] [] cpos) none pos.line X.env=pure false:=by rfl) :
  SS X (.Expr (.Call (.Attribute (.Attribute o f fpos) "append" apos) [a] [] cpos) pos) (zOc C i f fe):=
 yY (zBq (zGQ zV1 zWV zWW zBr (zEV ho hb) (yD ha yy hs) hbase hfew hline hs hplain) hsw) λE σ H=>by
  rintro ⟨G0,H0,G,ρ,o,st,ef,k⟩
  obtain ⟨⟨c',fs,y⟩,e1,ef⟩:=zUs.mp ef
  obtain ⟨hu,hl⟩:=zEJ e1
  cases y with
  |l xs=>
   simp only at ef
   split at ef
   ·rename_i hlen
    obtain ⟨d,e2,rfl⟩:=zUt.mp ef
    obtain ⟨a1,dx,ws,b,q1,q2,q3,⟨vs,q4,q5⟩,q6,q7⟩:=st.fldAt hu hl
    refine ⟨_,q1,a1,C,dx,ws,_,rfl,q2,c,n,q3,.inl ⟨rfl,vs,SqL.of q4⟩,G,ρ,d,st.bs.gh,st.er,e2,λv G' H' t r=>?_⟩
    have st':=st.step t
    have hb0:G' b=none:=by
     obtain ⟨a2,dx2,ws2,b2,w1,w2,w3,_,w6,_⟩:=st'.fldAt hu hl
     rw [q1] at w1;cases w1
     rw [t.h _ _ q2] at w2;cases w2
     rw [q3] at w3;cases w3
     exact w6 b (zUy.mpr rfl)
    have q4':=t.h _ _ q4
    refine ⟨b,vs,v,rfl,rfl,q4',zU8 (by rw [<- q5.length];exact hlen) (by decide),k σ G' _ (st'.mutF (y':=.l (xs ++ [d])) hu hl q1 (t.h _ _ q2) q3 (λp x e=>?_) (λp x np e=>?_) ⟨_,zN,(Reps.mono t.g _ _ q5).append (Reps.cons r Reps.nil)⟩ (by simp [fpF]) λp m=>?_)⟩
    ·rw [zJ (λz=>by rw [z,hb0] at e;cases e)];exact t.s _ _ e
    ·rw [zJ (λz=>np (zUy.mpr z))];exact e
    ·cases zUy.mp m;exact ⟨.inl (zUy.mpr rfl),hb0⟩
   ·cases ef
  |_=>cases ef
def zRf (C:Addr) (i:Nat) (f:Str) (fi fe:ROd):ROo:=λρ=>(fe ρ).bind λd=>(zHr C i f ρ).bind λq=>match q.2.2 with
 |.l xs=>(fi ρ).bind λdi=>match di with
  |.int n=>(ixN xs.length n).map λj=>.nx (zEu C i f q.1 q.2.1 (.l (xs.set j d)) ρ)
  |_=>none
 |_=>none
theorem zRg {ie:Expr} {fi:ROd} {tpos fpos:Pos} (i:Nat) (c:Cls X.K C) (n:qH X.K C f) (ho:PE X o (zBG i)) (hi:SE X ie fi) (ha:SE X a fe) (hb:attributeBase o f X.env (eval o X.env)=eval o X.env:=by rfl)
  (hg:∀ v,assign (.Subscript (.Attribute o f fpos) ie tpos) X.env v=(do
   let ov <- holding [v] (eval (.Attribute o f fpos) X.env)
   let iv <- holding [v,ov] (eval ie X.env)
   standAt tpos
   holding [v,ov,iv] (setItem ov iv v)
   release [v,ov,iv] []):=by intro _;rfl)
  (hs:swapsWithSole [.Subscript (.Attribute o f fpos) ie tpos] a pos.line X.env=pure false:=by rfl) (hw:swappedStores [.Subscript (.Attribute o f fpos) ie tpos] a X.env=pure none:=by rfl)
  (h1:(assignEach [.Subscript (.Attribute o f fpos) ie tpos] X.env).map (·.2) = [assign (.Subscript (.Attribute o f fpos) ie tpos) X.env]:=by rfl):SS X (.Assign [.Subscript (.Attribute o f fpos) ie tpos] a pos) (zRf C i f fi fe):=
 yY (zLT ha (zPv (zEV ho hb) hi zJc hg) hs hw h1) λE σ H=>by
  rintro ⟨G0,H0,G,ρ,o,st,ef,k⟩
  obtain ⟨d,e1,ef⟩:=zUs.mp ef
  obtain ⟨⟨c',fs,y⟩,e2,ef⟩:=zUs.mp ef
  obtain ⟨hu,hl⟩:=zEJ e2
  cases y with
  |l xs=>
   obtain ⟨di,e3,ef⟩:=zUs.mp ef
   cases di with
   |int m=>
    obtain ⟨j,e4,rfl⟩:=zUt.mp ef
    refine ⟨G,ρ,d,st.bs.gh,st.er,e1,λv G1 H1 t1 r1=>?_⟩
    obtain ⟨a1,dx,ws,b,q1,q2,q3,_,_,_⟩:=(st.step t1).fldAt hu hl
    refine ⟨_,q1,a1,C,dx,ws,_,rfl,q2,c,n,q3,G1,ρ,_,t1.s,st.er.step t1,e3,λv2 G2 H2 t2 r2=>?_⟩
    have st':=(st.step t1).step t2
    obtain ⟨a2,dx2,ws2,b2,w1,w2,w3,⟨vs,w4,w5⟩,w6,_⟩:=st'.fldAt hu hl
    rw [q1] at w1;cases w1
    rw [t2.h _ _ q2] at w2;cases w2
    rw [q3] at w3;cases w3
    have hb0:G2 b=none:=w6 b (zUy.mpr rfl)
    refine ⟨b,vs,m,j,rfl,yE.mp r2,w4,by rw [<- w5.length];exact e4,k σ G2 _ (st'.mutF (y':=.l (xs.set j d)) hu hl q1 (t2.h _ _ q2) q3 (λp x e=>?_) (λp x np e=>?_) ⟨_,zN,w5.set j (Rep.mono t2.g _ _ r1)⟩ (by simp [fpF]) λp mm=>?_)⟩
    ·rw [zJ (λz=>by rw [z,hb0] at e;cases e)];exact t2.s _ _ e
    ·rw [zJ (λz=>np (zUy.mpr z))];exact e
    ·cases zUy.mp mm;exact ⟨.inl (zUy.mpr rfl),hb0⟩
   |_=>cases ef
  |_=>cases ef
end
def rGet (C:Addr) (i:Nat) (f:Str) (fk fd:ROd):ROd:=λρ=>(zHH C i f ρ).bind λfl=>match fl with
 |.f (.tl kvs)=>(fk ρ).bind λkd=>(zMW kd).bind λk=>(fd ρ).map λd=>match zAv kvs k with
  |some xs=>.lst xs
  |none=>d
 |_=>none
section
variable {X:Cx} {o a ke de:Expr} {pos apos cpos fpos:Pos} {C:Addr} {f:Str} {fe fk fd:ROd}
theorem zRh (i:Nat) (hu:X.A.units+1<cLine) (c:Cls X.K C) (n:qH X.K C f) (ho:PE X o (zBG i)) (hk:SE X ke fk) (hd:SE X de fd) (m:M2 X (.Attribute o f fpos) "get" apos ke de cpos) (hb:attributeBase o f X.env (eval o X.env)=eval o X.env:=by rfl) :
  SR X (.Call (.Attribute (.Attribute o f fpos) "get" apos) [ke,de] [] cpos) (rGet C i f fk fd):=
 zAy (zOA hu (zEV ho hb) hk hd m) λσ H Q=>by
  rintro ⟨G,ρ,d,s,er,ef,k⟩
  obtain ⟨fl,e1,ef⟩:=zUs.mp ef
  obtain ⟨x,e3,e4⟩:=zUs.mp e1
  obtain ⟨a,q1,A⟩:=zCH er e3
  cases fl with
  |v d'=>cases ef
  |f y=>
   cases y with
   |tl kvs=>
    obtain ⟨kd,e5,ef⟩:=zUs.mp ef
    obtain ⟨kk,e6,ef⟩:=zUs.mp ef
    obtain ⟨dd,e7,rfl⟩:=zUt.mp ef
    obtain ⟨dx,ws,u,w1,w2,⟨b,rfl,vs,z1,z2,z3⟩,w4⟩:=A.fld e4
    refine ⟨_,q1,a,C,dx,ws,_,rfl,w1,c,n,w2,b,rfl,.inr ⟨vs,.inl z1⟩,G,ρ,kd,s,er,e5,λv1 G1 H1 t1 r1=>?_⟩
    refine ⟨G1,ρ,dd,t1.s,er.step t1,e7,λv2 G2 H2 t2 r2=>?_⟩
    obtain ⟨kb,rfl,hkb⟩:=zBM e6 r1
    have tt:=t1.trans t2
    have A2:=A.step tt
    obtain ⟨dx',ws',u',w1',w2',⟨b',e',vs',z1',z2',z3'⟩,w4'⟩:=A2.fld e4
    rw [tt.h _ _ w1] at w1';cases w1'
    rw [w2] at w2';cases w2'
    cases e'
    rw [tt.h _ _ z1] at z1';cases z1'
    refine ⟨zAm vs kk,zDJ.t (tt.h _ _ z1) (t2.h _ _ (t1.s _ _ hkb)),?_⟩
    rcases yF.get (k:=kk) z2' z3' with ⟨g1,g2⟩|⟨xs,b',us,g1,g2,g3,g4,g5⟩
    ·rw [g2]
     have:=k v2 G2 H2 tt (.fr (by simp only [g1];exact r2))
     exact this
    ·rw [g2]
     refine k (.ref b') G2 H2 tt ?_
     simp only [g1]
     refine .ow (w4' b' ?_) g3 g4
     simp only [fpL,fpF]
     rw [tt.h _ _ z1]
     exact zUu _ g5
   |_=>cases ef
end
theorem zEv {f:Str} {u v:Fl}:∀ (fs:List (Str×Fl)),qW f v (qW f u fs)=qW f v fs
 | []=>rfl
 |(g,y)::r=>by
  by_cases e:(g == f)=true
  ·simp [qW,e]
  ·have e:(g == f)=false:=by simpa using e
   simp [qW,e,zEv r]
theorem zD1 {f:Str} {y v:Fl}:∀ {fs:List (Str×Fl)},fs.lookup f=some y->(qW f v fs).lookup f=some v
 | [],h=>by cases h
 |(g,z)::r,h=>by
  by_cases e:g=f
  ·subst e;simp [qW]
  ·have e1:(g == f)=false:=zVd.mpr e
   have e2:(f == g)=false:=zVd.mpr (Ne.symm e)
   rw [zVM,e2] at h
   simp only [qW,e1,zVu,zV8,zVM,e2]
   exact zD1 h
theorem zGe {κ:Type} [DecidableEq κ] {α:Type} {k:κ} {x y:α}:∀ {kvs:List (κ×α)},zAv kvs k=none->zCk k y (kvs ++ [(k,x)])=kvs ++ [(k,y)]
 | [],_=>by simp [zCk]
 |q::r,h=>by
  by_cases e:q.1=k
  ·simp [zAv,e] at h
  ·have h':zAv r k=none:=by simpa [zAv,e] using h
   simp only [zVy,zCk,zVe e,zGe h']
theorem zJt {κ:Type} [DecidableEq κ] {α:Type} {k:κ} {x:α}:∀ {kvs:List (κ×α)},zAv kvs k=none->zAv (kvs ++ [(k,x)]) k=some x
 | [],_=>by simp [zAv]
 |q::r,h=>by
  by_cases e:q.1=k
  ·simp [zAv,e] at h
  ·have h':zAv r k=none:=by simpa [zAv,e] using h
   have:=zJt (x:=x) h'
   simpa [zAv,e] using this
theorem zGf {κ:Type} [DecidableEq κ] {k:κ} {v:V}:∀ {kvs:List (κ×V)},zAm kvs k=none->zAm (kvs ++ [(k,v)]) k=some v
 | [],_=>by simp [zAm]
 |q::r,h=>by
  by_cases e:q.1=k
  ·simp [zAm,e] at h
  ·have h':zAm r k=none:=by simpa [zAm,e] using h
   have:=zGf (v:=v) h'
   simpa [zAm,e] using this
theorem zBw {κ:Type} {ws:List (κ×V)} {k:κ} {p:Addr}:zDK (ws ++ [(k,.ref p)])=zDK ws ++ [p]:=by
 unfold zDK
 rw [List.filterMap_append];rfl
section
variable {X:Cx} {o a ke:Expr} {pos apos cpos fpos:Pos} {C:Addr} {f:Str} {fe fk:ROd}
def zMX (C:Addr) (i:Nat) (f:Str) (fk:ROd):ROo:=λρ=>(zHr C i f ρ).bind λq=>match q.2.2 with
 |.tl kvs=>(fk ρ).bind λkd=>(zMW kd).bind λk=>match zAv kvs k with
  |some (_::xs)=>some (.nx (zEu C i f q.1 q.2.1 (.tl (zCk k xs kvs)) ρ))
  |_=>none
 |_=>none
theorem zRi {kp:Pos} {j} {ipos:Pos} (i:Nat) (hu:X.A.units+1<cLine) (c:Cls X.K C) (n:qH X.K C f) (ho:PE X o (zBG i)) (hk:SE X ke fk) (hsl:zSo ke:=by intro _ _;rfl) (hb:attributeBase o f X.env (eval o X.env)=eval o X.env:=by rfl)
  (hbase:attributeBase (.Subscript (.Attribute o f fpos) ke kp) "pop" X.env (eval (.Subscript (.Attribute o f fpos) ke kp) X.env)=eval (.Subscript (.Attribute o f fpos) ke kp) X.env:=by rfl)
  (hfew:((backTo cpos (starEach [Expr.Constant (.int 0) j ipos] X.env)).all (λx=>!x.1) && (backToKw cpos (keywordEach [] X.env)).all (λx=>x.1.isSome)
   && decide ([Expr.Constant (.int 0) j ipos].length+([]:List Keyword).length+(if ([]:List Keyword).isEmpty then 0 else 1)<30))=true:=by rfl)
  (hline:(apos.endLine == cpos.line)=true:=by rfl) (hs:starEach [Expr.Constant (.int 0) j ipos] X.env=(false,eval (.Constant (.int 0) j ipos) X.env)::starEach [] X.env:=by rfl) (hplain:(backTo cpos (starEach [] X.env)).any (·.1)=false:=by rfl)
  (hsw:swapsWith (.Call (.Attribute (.Subscript (.Attribute o f fpos) ke kp) "pop" apos) [.Constant (.int 0) j ipos] [] cpos) none pos.line X.env=pure false:=by rfl) :
  SS X (.Expr (.Call (.Attribute (.Subscript (.Attribute o f fpos) ke kp) "pop" apos) [.Constant (.int 0) j ipos] [] cpos) pos) (zMX C i f fk):=
 yY (zBq (zGQ zV1 PySem.F.slot_list_pop PySem.F.type_list_pop zN7 (zGT hu (zEV ho hb) hk hsl) (yD zPr yy hs) hbase hfew hline hs hplain) hsw) λE σ H=>by
  rintro ⟨G0,H0,G,ρ,o,st,ef,k⟩
  obtain ⟨⟨c',fs,y⟩,e1,ef⟩:=zUs.mp ef
  obtain ⟨hu',hl⟩:=zEJ e1
  cases y with
  |tl kvs=>
   obtain ⟨kd,e5,ef⟩:=zUs.mp ef
   obtain ⟨kk,e6,ef⟩:=zUs.mp ef
   cases g0:zAv kvs kk with
   |none=>rw [g0] at ef;cases ef
   |some l=>
    cases l with
    |nil=>rw [g0] at ef;cases ef
    |cons d xs=>
     rw [g0] at ef
     cases ef
     obtain ⟨a1,dx,ws,b,q1,q2,q3,⟨vs,z1,z2,z3⟩,q6,q7⟩:=st.fldAt hu' hl
     refine ⟨_,q1,a1,C,dx,ws,_,rfl,q2,c,n,q3,G,ρ,kd,st.bs.gh,st.er,e5,λv1 G1 H1 t1 r1=>?_⟩
     obtain ⟨kb,rfl,hkb⟩:=zBM e6 r1
     have st':=st.step t1
     obtain ⟨a2,dx2,ws2,b2,p1,p2,p3,⟨vs',y1,y2,y3⟩,p6,p7⟩:=st'.fldAt hu' hl
     rw [q1] at p1;cases p1
     rw [t1.h _ _ q2] at p2;cases p2
     rw [q3] at p3;cases p3
     rw [t1.h _ _ z1] at y1;cases y1
     have hb1:=t1.h _ _ z1
     rcases yF.get (k:=kk) y2 y3 with ⟨g1,_⟩|⟨xs',b',us,g1,g2,g3,g4,g5⟩
     ·rw [g0] at g1;cases g1
     ·rw [g0] at g1;cases g1
      obtain ⟨v0,us0,rfl,r0,rs⟩:=za.mp g4
      have fpe:fpF H1 (.tl kvs) b=b::zDK vs:=by simp only [fpF];rw [hb1];rfl
      have nd:=zVa.mp (by rw [fpe] at p7;exact p7)
      have hbb:b'≠b:=λz=>nd.1 (by rw [<- z];exact g5)
      have hb0:G1 b'=none:=p6 b' (by rw [fpe];exact zUu _ g5)
      have hbG:G1 b=none:=p6 b (by rw [fpe];exact zU0 ..)
      have kb':upd H1 b' (.lst us0) b=some (.dT vs):=by rw [zJ (Ne.symm hbb)];exact hb1
      have fpn:fpF (upd H1 b' (.lst us0)) (.tl (zCk kk xs kvs)) b=b::zDK vs:=by simp only [fpF];rw [kb'];rfl
      refine ⟨b,.ref b',rfl,by rw [<- g2];exact zDJ.t hb1 (t1.s _ _ hkb),.inl ⟨rfl,_,SqL.of g3⟩,b',v0::us0,0,0,v0,rfl,rfl,g3,by decide,by decide,by simp [seqIndex?],rfl,?_⟩
      show E.nx σ (upd H1 b' (.lst us0))
      refine k σ G1 _ (st'.mutF (y':=.tl (zCk kk xs kvs)) hu' hl q1 (t1.h _ _ q2) q3 (λp x e=>?_) (λp x np e=>?_) ⟨vs,kb',by rw [zA2];exact y2,?_⟩ (by rw [fpn];exact zVa.mpr nd) λp mm=>?_)
      ·rw [zJ (λz=>by rw [z,hb0] at e;cases e)];exact t1.s _ _ e
      ·rw [zJ (λz=>np (by rw [fpe,z];exact zUu _ g5))];exact e
      ·exact yF.set zN rs (λp x np e=>by rw [zJ np];exact e) y2 y3 nd.2 g2
      ·rw [fpn] at mm
       exact ⟨.inl (by rw [fpe];exact mm),p6 p (by rw [fpe];exact mm)⟩
  |_=>cases ef
def zMY (C:Addr) (i:Nat) (f:Str) (fk fe:ROd):ROo:=λρ=>(zHr C i f ρ).bind λq=>match q.2.2 with
 |.tl kvs=>(fk ρ).bind λkd=>(zMW kd).bind λk=>match zAv kvs k with
  |some xs=>if xs.length<1000000 then (fe ρ).map λd=>.nx (zEu C i f q.1 q.2.1 (.tl (zCk k (xs ++ [d]) kvs)) ρ) else none
  |none=>if kvs.length<1000000 then (fe (zEu C i f q.1 q.2.1 (.tl (kvs ++ [(k,[])])) ρ)).map λd=>.nx (zEu C i f q.1 q.2.1 (.tl (kvs ++ [(k,[d])])) ρ) else none
 |_=>none
theorem zRj {sp dp lp:Pos} (i:Nat) (hu:X.A.units+1<cLine) (c:Cls X.K C) (n:qH X.K C f) (ho:PE X o (zBG i)) (hk:SE X ke fk) (ha:SE X a fe) (hb:attributeBase o f X.env (eval o X.env)=eval o X.env:=by rfl)
  (hbase1:attributeBase (.Attribute o f fpos) "setdefault" X.env (eval (.Attribute o f fpos) X.env)=eval (.Attribute o f fpos) X.env:=by rfl)
  (hfew1:((backTo dp (starEach [ke,.List [] lp] X.env)).all (λx=>!x.1) && (backToKw dp (keywordEach [] X.env)).all (λx=>x.1.isSome)
   && decide ([ke,.List [] lp].length+([]:List Keyword).length+(if ([]:List Keyword).isEmpty then 0 else 1)<30))=true:=by rfl)
  (hline1:(sp.endLine == dp.line)=true:=by rfl) (hs1:starEach [ke,.List [] lp] X.env=(false,eval ke X.env)::starEach [.List [] lp] X.env:=by rfl) (hs2:starEach [.List [] lp] X.env=(false,eval (.List [] lp) X.env)::starEach [] X.env:=by rfl) (hplain1:(backTo dp (starEach [.List [] lp] X.env)).any (·.1)=false:=by rfl)
  (hbase:attributeBase (.Call (.Attribute (.Attribute o f fpos) "setdefault" sp) [ke,.List [] lp] [] dp) "append" X.env (eval (.Call (.Attribute (.Attribute o f fpos) "setdefault" sp) [ke,.List [] lp] [] dp) X.env)=eval (.Call (.Attribute (.Attribute o f fpos) "setdefault" sp) [ke,.List [] lp] [] dp) X.env:=by rfl)
  (hfew:((backTo cpos (starEach [a] X.env)).all (λx=>!x.1) && (backToKw cpos (keywordEach [] X.env)).all (λx=>x.1.isSome)
   && decide ([a].length+([]:List Keyword).length+(if ([]:List Keyword).isEmpty then 0 else 1)<30))=true:=by rfl)
  (hline:(apos.endLine == cpos.line)=true:=by rfl) (hs:starEach [a] X.env=(false,eval a X.env)::starEach [] X.env:=by rfl) (hplain:(backTo cpos (starEach [] X.env)).any (·.1)=false:=by rfl)
  (hsw:swapsWith (.Call (.Attribute (.Call (.Attribute (.Attribute o f fpos) "setdefault" sp) [ke,.List [] lp] [] dp) "append" apos) [a] [] cpos) none pos.line X.env=pure false:=by rfl) :
  SS X (.Expr (.Call (.Attribute (.Call (.Attribute (.Attribute o f fpos) "setdefault" sp) [ke,.List [] lp] [] dp) "append" apos) [a] [] cpos) pos) (zMY C i f fk fe):=
 yY (zBq (zGQ zV1 zWV zWW zBr
     (zGQ zWy zVv PySem.F.type_dict_setdefault (zC7 hu) (zEV ho hb) (yD hk (yD (zLc yy) yy hs2) hs1) hbase1 hfew1 hline1 hs1 hplain1) (yD ha yy hs) hbase hfew hline hs hplain) hsw) λE σ H=>by
  rintro ⟨G0,H0,G,ρ,o,st,ef,k⟩
  obtain ⟨⟨c',fs,y⟩,e1,ef⟩:=zUs.mp ef
  obtain ⟨hu',hl⟩:=zEJ e1
  cases y with
  |tl kvs=>
   obtain ⟨kd,e5,ef⟩:=zUs.mp ef
   obtain ⟨kk,e6,ef⟩:=zUs.mp ef
   obtain ⟨a1,dx,ws,b,q1,q2,q3,⟨vs,z1,z2,z3⟩,q6,q7⟩:=st.fldAt hu' hl
   refine ⟨_,q1,a1,C,dx,ws,_,rfl,q2,c,n,q3,.inr (.inr (.inl ⟨rfl,.inr ⟨vs,z1⟩⟩)),G,ρ,kd,st.bs.gh,st.er,e5,λv1 G1 H1 t1 r1=>?_⟩
   obtain ⟨kb,rfl,hkb⟩:=zBM e6 r1
   have st1:=st.step t1
   obtain ⟨a2,dx2,ws2,b2,p1,p2,p3,⟨vs',y1,y2,y3⟩,p6,p7⟩:=st1.fldAt hu' hl
   rw [q1] at p1;cases p1
   rw [t1.h _ _ q2] at p2;cases p2
   rw [q3] at p3;cases p3
   rw [t1.h _ _ z1] at y1;cases y1
   have hb1:=t1.h _ _ z1
   refine ⟨zWS _,λp hp=>?_⟩
   have t2:zd G1 H1 G1 (upd H1 p (.lst [])):=zd.newH t1.s hp
   have st2:=st1.step t2
   have hb2:=t2.h _ _ hb1
   have hkb2:upd H1 p (.lst []) kb=some (.tup (kk.map kV)):=t2.h _ _ (t1.s _ _ hkb)
   have fpe:∀ {H':Hp} {l:List (List Key×List D)},H' b=some (.dT vs)->fpF H' (.tl l) b=b::zDK vs:=λ{H' l} e=>by simp only [fpF];rw [e];rfl
   have nd:=zVa.mp (by rw [fpe hb1] at p7;exact p7)
   have frE:∀ q∈b::zDK vs,G1 q=none:=by rw [fpe hb1] at p6;exact p6
   have hpb:p≠b:=λz=>by rw [z,hb1] at hp;cases hp
   cases g0:zAv kvs kk with
   |some xs=>
    rw [g0] at ef
    simp only at ef
    split at ef
    ·rename_i hlen
     obtain ⟨d,e7,rfl⟩:=zUt.mp ef
     rcases yF.get (k:=kk) y2 y3 with ⟨g1,_⟩|⟨xs',b',us,g1,g2,g3,g4,g5⟩
     ·rw [g0] at g1;cases g1
     ·rw [g0] at g1;cases g1
      have hbb:b'≠b:=λz=>nd.1 (by rw [<- z];exact g5)
      refine ⟨b,.ref kb,.ref p,rfl,rfl,.inl ⟨.ref b',by rw [<- g2];exact zDJ.t hb2 hkb2,.inr ⟨vs,hb2⟩,.inl ⟨rfl,us,SqL.of (t2.h _ _ g3)⟩,G1,ρ,d,t2.s,st2.er,e7,λv G3 H3 t3 r3=>?_⟩⟩
      have st3:=st2.step t3
      have g3':=t3.h _ _ (t2.h _ _ g3)
      have hb3:=t3.h _ _ hb2
      have fr3:∀ q∈b::zDK vs,G3 q=none:=by
       obtain ⟨a4,dx4,ws4,b4,w1,w2,w3,_,w6,_⟩:=st3.fldAt hu' hl
       rw [q1] at w1;cases w1
       rw [t3.h _ _ (t2.h _ _ (t1.h _ _ q2))] at w2;cases w2
       rw [q3] at w3;cases w3
       rw [fpe hb3] at w6;exact w6
      have y3':=y3.same (H':=H3) (t2.trans t3).g λq _ o z=>(t2.trans t3).h _ _ z
      have kb':upd H3 b' (.lst (us ++ [v])) b=some (.dT vs):=by rw [zJ (Ne.symm hbb)];exact hb3
      refine ⟨b',us,v,rfl,rfl,g3',zU8 (by rw [<- g4.length];exact hlen) (by decide),k σ G3 _ (st3.mutF (y':=.tl (zCk kk (xs ++ [d]) kvs)) hu' hl q1 (t3.h _ _ (t2.h _ _ (t1.h _ _ q2))) q3 (λq x e=>?_) (λq x np e=>?_) ⟨vs,kb',by rw [zA2];exact y2,?_⟩ (by rw [fpe kb'];exact zVa.mpr nd) λq mm=>?_)⟩
      ·rw [zJ (λz=>by rw [z,fr3 b' (zUu _ g5)] at e;cases e)];exact t3.s _ _ e
      ·rw [zJ (λz=>np (by rw [fpe hb3,z];exact zUu _ g5))];exact e
      ·exact yF.set zN ((Reps.mono (t2.trans t3).g _ _ g4).append (Reps.cons r3 Reps.nil)) (λq x np e=>by rw [zJ np];exact e) y2 y3' nd.2 g2
      ·rw [fpe kb'] at mm
       exact ⟨.inl (by rw [fpe hb3];exact mm),fr3 q mm⟩
    ·cases ef
   |none=>
    rw [g0] at ef
    simp only at ef
    split at ef
    ·rename_i hlen
     obtain ⟨d,e7,rfl⟩:=zUt.mp ef
     have hv:zAm vs kk=none:=by
      rcases yF.get (k:=kk) y2 y3 with ⟨_,g2⟩|⟨xs',b',us,g1,_⟩
      ·exact g2
      ·rw [g0] at g1;cases g1
     have hlv:vs.length<sizeLine:=by
      have:=zVw List.length y2
      simp only [zU4] at this
      rw [<- this];exact zU8 hlen (by decide)
     have hput:zCQ vs kk (.ref p)=vs ++ [(kk,.ref p)]:=zJd _ hv
     refine ⟨b,.ref kb,.ref p,rfl,rfl,.inr ⟨by rw [<- hv];exact zDJ.t hb2 hkb2,_,zLl.t hb2 hkb2 hlv,?_⟩⟩
     rw [hput]
     have hbn:upd (upd H1 p (.lst [])) b (.dT (vs ++ [(kk,.ref p)])) b=some (.dT (vs ++ [(kk,.ref p)])):=zN
     have hpn:upd (upd H1 p (.lst [])) b (.dT (vs ++ [(kk,.ref p)])) p=some (.lst []):=by rw [zJ hpb,zN]
     have fpn:∀ {H':Hp} {l:List (List Key×List D)},H' b=some (.dT (vs ++ [(kk,.ref p)]))->fpF H' (.tl l) b=b::(zDK vs ++ [p]):=λ{H' l} e=>by simp only [fpF];rw [e];simp only [inK];rw [zBw]
     have gp:G1 p=none:=t1.s.free hp
     have pni:p∉zDK vs:=λm=>by
      obtain ⟨o,e⟩:=y3.there p (qB.mp m);rw [hp] at e;cases e
     have ndn:(b::(zDK vs ++ [p])).Nodup:=by
      rw [zVa,zVn]
      refine ⟨λm=>?_,nd.2,by simp,λx hx y hy=>?_⟩
      ·rcases zU2.mp m with m|m
       ·exact nd.1 m
       ·exact hpb (zUy.mp m).symm
      ·cases zUy.mp hy
       intro z;subst z;exact pni hx
     have st3:=st1.mutF (H':=upd (upd H1 p (.lst [])) b (.dT (vs ++ [(kk,.ref p)]))) (y':=.tl (kvs ++ [(kk,[])])) hu' hl q1 (t1.h _ _ q2) q3
      (λq x e=>by
       rw [zJ (λz=>by rw [z,frE b (zU0 ..)] at e;cases e),zJ (λz=>by rw [z,gp] at e;cases e)];exact t1.s _ _ e)
      (λq x np e=>by
       rw [zJ (λz=>np (by rw [fpe hb1,z];exact zU0 ..)),zJ (λz=>by rw [z,hp] at e;cases e)];exact e)
      ⟨_,hbn,by simp [y2],by
       rw [zVK,zVK]
       refine yF.snoc hpn Reps.nil (y3.same (zf.refl _) λq m o z=>?_)
       rw [zJ (λzz=>nd.1 (by rw [<- zz];exact qB.mpr m)),zJ (λzz=>by rw [zz,hp] at z;cases z)];exact z⟩
      (by rw [fpn hbn];exact ndn)
      (λq mm=>by
       rw [fpn hbn] at mm
       rcases zU1.mp mm with z|mm
       ·subst z;exact ⟨.inl (by rw [fpe hb1];exact zU0 ..),frE _ (zU0 ..)⟩
       ·rcases zU2.mp mm with mm|mm
        ·exact ⟨.inl (by rw [fpe hb1];exact zUu _ mm),frE _ (zUu _ mm)⟩
        ·cases zUy.mp mm;exact ⟨.inr hp,gp⟩)
     have hil:i<ρ.length:=(zU7.mp hu').1
     have hu3:(ρ.set i (.o c' (.ins C (qW f (.f (.tl (kvs ++ [(kk,[])]))) fs))))[i]?=some (.o c' (.ins C (qW f (.f (.tl (kvs ++ [(kk,[])]))) fs))):=zVQ hil
     have hl3:=zD1 (v:=.f (.tl (kvs ++ [(kk,[])]))) hl
     have q23:upd (upd H1 p (.lst [])) b (.dT (vs ++ [(kk,.ref p)])) a1=some (.ins C dx ws):=by
      have e:=t1.h _ _ q2
      rw [zJ (λz=>by rw [z,hb1] at e;cases e),zJ (λz=>by rw [z,hp] at e;cases e)];exact e
     refine ⟨.inl ⟨rfl,[],SqL.of hpn⟩,G1,_,d,st3.bs.gh,st3.er,e7,λv G4 H4 t4 r4=>?_⟩
     have st4:=st3.step t4
     have hb4:=t4.h _ _ hbn
     obtain ⟨a5,dx5,ws5,b5,w1,w2,w3,⟨vs5,x1,x2,x3⟩,w6,w7⟩:=st4.fldAt hu3 hl3
     rw [q1] at w1;cases w1
     rw [t4.h _ _ q23] at w2;cases w2
     rw [q3] at w3;cases w3
     rw [hb4] at x1;cases x1
     rw [fpn hb4] at w6
     have kb':upd H4 p (.lst ([] ++ [v])) b=some (.dT (vs ++ [(kk,.ref p)])):=by rw [zJ (Ne.symm hpb)];exact hb4
     have gn:=zJt (x:=([]:List D)) g0
     have gv:zAm (vs ++ [(kk,V.ref p)]) kk=some (.ref p):=by
      rcases yF.get (k:=kk) x2 x3 with ⟨g1,_⟩|⟨xs',b',us,g1,g2,g3,g4,g5⟩
      ·rw [gn] at g1;cases g1
      ·rw [g2]
       have:=zGf (v:=V.ref p) hv
       rw [this] at g2;cases g2;rfl
     refine ⟨p,[],v,rfl,rfl,t4.h _ _ hpn,by decide,?_⟩
     have fin:=st4.mutF (H':=upd H4 p (.lst ([] ++ [v]))) (y':=.tl (zCk kk [d] (kvs ++ [(kk,[])]))) hu3 hl3 q1 (t4.h _ _ q23) q3
      (λq x e=>by rw [zJ (λz=>by rw [z,w6 p (by simp)] at e;cases e)];exact t4.s _ _ e)
      (λq x np e=>by rw [zJ (λz=>np (by rw [fpn hb4,z];simp))];exact e)
      ⟨_,kb',by rw [zA2];exact x2,yF.set zN (Reps.cons r4 Reps.nil) (λq x np e=>by rw [zJ np];exact e) x2 x3 (by rw [zBw];exact (zVa.mp ndn).2) gv⟩
      (by rw [fpn kb'];exact ndn)
      (λq mm=>by rw [fpn kb'] at mm;exact ⟨.inl (by rw [fpn hb4];exact mm),w6 q mm⟩)
     rw [zGe g0,List.set_set,zEv] at fin
     exact k σ G4 _ fin
    ·cases ef
  |_=>cases ef
end
structure Chg (K:Fg) (G H G' H':Hp) (x x':Ob) (a:Addr):Prop where
 g:zf G G'
 gh:zf G' H'
 fr:∀ b o,G' b=some o->G b=none->H b=none\/b∈fpO H x a
 h:∀ b o,H b=some o->b∉fpO H x a->H' b=some o
 at_:At K G' H' x' a
 new:∀ c∈fpO H' x' a,c∈fpO H x a\/H c=none
def spM (K:Fg) (f:Ob->List D->Option Ob) (n:Nat):Sp:=λvs H Q _=>∃ G x a ds ws x',vs = .ref a::ws/\zf G H/\At K G H x a/\Reps K G ds ws/\ds.length+1=n/\f x ds=some x'/\∀ G' H',Chg K G H G' H' x x' a->Q .non H'
def zA3 (a:Addr) (ρ:Rho):Option Ob:=match (ρ[(0:Nat)]?:Option Sl) with
 |some (.o c y)=>if c=some a then some y else none
 |_=>none
def runM (N:List Str) (F:ROo) (a:Addr) (x:Ob) (ds:List D):Option Ob:=(F ((.o (some a) x::ds.map Sl.v)++List.replicate (N.length-(ds.length+1)) .un)).bind λo=>match o with
 |.nx ρ=>zA3 a ρ
 |_=>none
section
variable {K:Fg} {G H:Hp} {a:Addr} {x:Ob} {ds:List D} {ws:List V} {m:Nat} {τ:L2.St}
theorem zOd {i:Nat} {u:Sl} (h:((Sl.o (some a) x::ds.map Sl.v)++List.replicate m Sl.un)[i]?=some u) (o:u.isOwn=true):i=0/\u = .o (some a) x:=by
 cases i with
 |zero=>simp at h;exact ⟨rfl,h.symm⟩
 |succ i=>
  exfalso
  have hm:u∈(ds.map Sl.v++List.replicate m Sl.un):=by
   have:((Sl.o (some a) x::ds.map Sl.v)++List.replicate m Sl.un)[i+1]?=(ds.map Sl.v++List.replicate m Sl.un)[i]?:=by simp
   rw [this] at h
   exact zVF h
  rcases zU2.mp hm with q|q
  ·obtain ⟨d',_,rfl⟩:=zVT.mp q;cases o
  ·rw [(zWd.mp q).2] at o;cases o
theorem zCl {b:Addr} (hσ:((V.ref a::ws).map some++τ)[0]?=some (some (.ref a))):(b∈fpO H x a->qM H ((Sl.o (some a) x::ds.map Sl.v)++List.replicate m Sl.un) ((V.ref a::ws).map some++τ) b=none) /\
  (b∉fpO H x a->qM H ((Sl.o (some a) x::ds.map Sl.v)++List.replicate m Sl.un) ((V.ref a::ws).map some++τ) b=H b):=by
 refine ⟨λh=>zDX (i:=0) (s:=.o (some a) x) (a:=a) (by simp) rfl hσ h,λh=>?_⟩
 unfold qM
 rw [zVe]
 rintro ⟨i,s,c,h1,h2,h3,h4⟩
 obtain ⟨rfl,rfl⟩:=zOd h1 h2
 rw [hσ] at h3
 cases h3
 exact h h4
end
theorem zQI {P:Program} {w:World} {K:Fg} {mg:MGt} {base:Heap} {x qual:Str} {st:Stmt} {fa:Addr} {fd:FuncData} {N ps:List Str} {k:Nat} {F:ROo} {f:Ob->List D->Option Ob}
  (FF:Fun K x qual st fa fd) (S:zV N ps (zI st))
  (hbody:∀ (cdv:Value) (A:Around) (outer:List Env) (s:Shared) (H:Hp),zAB k (A.deeper (envOfC qual (zI st) s.heap.objs.size fa cdv))->SSs (zFS CX0 P w K mg base N qual (zI st) fa cdv A outer s H E0).nox (z8 st) F)
  (hf:∀ a y ds y',ds.length+1=ps.length->f y ds=some y'->runM N F a y ds=some y'):zCe P w K mg base CX0 (k+1) fa fd ps (spM K f ps.length):=by
 refine FF.ok S (λvs H Q E h=>?_) (λcdv A outer s H vs Q E hr h=>?_)
 ·obtain ⟨G,y,a,ds,ws,y',rfl,_,_,r,hn,_⟩:=h
  rw [zUv,<- r.length,hn]
 ·obtain ⟨G,y,a,ds,ws,y',rfl,sm,hA,r,hn,ef,kk⟩:=h
  have h1:SSs (zFS CX0 P w K mg base N qual (zI st) fa cdv A outer s H E).nox (z8 st) F:=hbody cdv A outer s H hr
  refine ⟨_,h1,?_⟩
  obtain ⟨o,e1,e2⟩:=zUs.mp (hf a y ds y' hn ef)
  have er0:Er K G H (.o (some a) y::ds.map Sl.v) ((V.ref a::ws).map some):=zEr rfl ⟨⟨hA.rep,hA.nd⟩,λc' e=>by cases e;rfl⟩ hA.fr r
  have er:=er0.app (N.length-(ds.length+1)) (List.replicate (N.length-(ds.length+1)) none) (by simp)
  have es:L2.zBH N (.ref a::ws)=(V.ref a::ws).map some++List.replicate (N.length-(ds.length+1)) none:=by rw [zCI,zUv,<- r.length]
  have hσ:((V.ref a::ws).map some++List.replicate (N.length-(ds.length+1)) none)[0]?=some (some (.ref a)):=by simp
  have no:=λb=>zCl (H:=H) (x:=y) (ds:=ds) (m:=N.length-(ds.length+1)) (b:=b) hσ
  rw [es]
  refine ⟨G,qM H _ _,G,_,o,er.toSt sm,e1,?_⟩
  cases o with
  |nx ρ=>
   have e2:zA3 a ρ=some y':=e2
   unfold zA3 at e2
   split at e2
   ·rename_i c y1 q0
    split at e2
    ·rename_i hc
     cases e2
     subst hc
     intro σ' G' H' st'
     obtain ⟨a',g1,g2,g3⟩:=st'.er.slot 0 _ q0 rfl
     have:a'=a:=g2.2 a rfl
     subst this
     refine kk G' H' ⟨st'.bs.gg,st'.bs.gh,λb o e n=>?_,λb o e n=>st'.bs.hh b o (by rw [(no b).2 n];exact e),⟨g2.1.1,g2.1.2,g3⟩,λc m=>?_⟩
     ·have z:=st'.bs.fr b o e n
      by_cases hb:b∈fpO H y a'
      ·exact .inr hb
      ·rw [(no b).2 hb] at z;exact .inl z
     ·have z:=st'.ows 0 _ a' q0 rfl g1 c m
      by_cases hb:c∈fpO H y a'
      ·exact .inl hb
      ·rw [(no c).2 hb] at z;exact .inr z
    ·cases e2
   ·cases e2
  |rt d=>cases e2
  |bk ρ=>cases e2
  |ct ρ=>cases e2
  |ro ρ=>cases e2
  |rm d ρ=>cases e2
structure zSq (P:Program) (w:World) (K:Fg) (mg:MGt) (base:Heap) (C:Addr) (k:Nat) (m:Str) (n:Nat) (F:Ob->List D->Option Ob):Prop where
 ex:∃ f fd ps,zCe P w K mg base CX0 k f fd ps (spM K F n)/\zQv K C m f/\L2.zAx K fd ps []
def zFX (C:Addr) (m:Str) (i:Nat) (fl:ROl) (F:Ob->List D->Option Ob):ROo:=λρ=>match ρ[i]? with
 |some (.o c x)=>if zBj C m x=true then (fl ρ).bind λds=>(F x ds).map λx'=>.nx (ρ.set i (.o c x')) else none
 |_=>none
section
variable {X:Cx} {o e a b:Expr} {es:List Expr} {pos pos' apos p1 p2:Pos} {C:Addr} {m:Str} {i k n:Nat} {F:Ob->List D->Option Ob} {fl:ROl} {f g:ROd}
theorem zGg {pl:Sem Bool} (i:Nat) (h:zSq X.prog X.w X.K X.mg X.base C k m n F) (c:Cls X.K C) (hr:zAB k X.A) (ho:PE X o (zBG i)) (ha:SA X (e::es) fl) (hn:(e::es).length+1=n)
  (hst:starEach (e::es) X.env=(false,eval e X.env)::starEach es X.env:=by rfl) (hpl:(backTo pos (starEach es X.env)).any (·.1)=false:=by rfl)
  (hsw:swapsWith (.Call (.Attribute o m apos) (e::es) [] pos) none pos'.line X.env=pure false:=by rfl)
  (ht:eval (.Call (.Attribute o m apos) (e::es) [] pos) X.env=(do
   let ov <- eval o X.env
   standAt apos.atName
   let (f,first) <- holding [ov] (getMethod ov m pl)
   callWith pos f first (backTo pos (starEach (e::es) X.env)) (backToKw pos (keywordEach [] X.env))):=by rfl) :
  SS X (.Expr (.Call (.Attribute o m apos) (e::es) [] pos) pos') (zFX C m i fl F):=by
 obtain ⟨f,fd,ps,FO,hm,hb⟩:=h.ex
 refine yY (zBq (zIY (pl:=pl) (dvs:=[]) (ds:=[]) (E:=E0) ho c hm FO hr hb .nil zIb ha.pa hst hpl ht) hsw) λE σ H zz=>?_
 obtain ⟨G0,H0,G,ρ,out,st,ef,kk⟩:=zz
 unfold zFX at ef
 split at ef
 ·rename_i c' x q0
  split at ef
  ·rename_i hx
   obtain ⟨ds,e2,ef⟩:=zUs.mp ef
   obtain ⟨x',e3,rfl⟩:=zUt.mp ef
   obtain ⟨a,q1,r1,r2⟩:=st.er.slot i _ q0 rfl
   have A:At X.K G H x a:=⟨r1.1.1,r1.1.2,r2⟩
   obtain ⟨dx,ws,q2,q3⟩:=zJs A hx
   refine ⟨_,q1,a,dx,ws,rfl,q2,q3,G,ρ,ds,st.bs.gh,st.er,e2,λvs G1 H1 t r=>?_⟩
   show spM X.K F n (V.ref a::(vs ++ [])) H1 _ E0
   rw [zVZ]
   refine ⟨G1,x,a,ds,vs,x',rfl,t.s,A.step t,r,by rw [ha.len _ _ e2];exact hn,e3,λG2 H2 ch=>?_⟩
   have st':=st.step t
   exact kk σ G2 H2 (st'.mutG q0 rfl (w:=.o c' x') rfl q1 ch.g ch.gh ch.fr ch.h ⟨⟨ch.at_.rep,ch.at_.nd⟩,r1.2⟩ λp mm=>⟨ch.new p mm,ch.at_.fr p mm⟩)
  ·cases ef
 ·cases ef
def dIx (f g:ROd):ROd:=λρ=>(f ρ).bind λx=>(zHm x).bind λkvs=>(g ρ).bind λy=>(zFs y).bind λk=>zC2 kvs k
theorem zHs (hu:X.A.units+1<cLine) (hg:Gl X "dict") (hm:X.mg "dict" = none) (ha:SE X a f) (hb:SE X b g) (hcalm:X.calm=true:=by rfl)
  (hs1:starEach [a] X.env=(false,eval a X.env)::starEach [] X.env:=by rfl) (hpl:(backTo p1 (starEach [] X.env)).any (·.1)=false:=by rfl) (hs:zSo b:=by intro _ _;rfl) :
  SE X (.Subscript (.Call (.Name "dict" p2) [a] [] p1) b pos) (dIx f g):=
 zAy (zGT hu (zEX (zKp hcalm) hg hm zTm (yD (zE ha) yy hs1) (by decide) (by decide) hs1 hpl) hb hs) λσ H Q=>by
  rintro ⟨G,ρ,d,sm,er,ef,k⟩
  obtain ⟨x,e1,ef⟩:=zUs.mp ef
  obtain ⟨kvs,e2,ef⟩:=zUs.mp ef
  obtain ⟨y,e3,ef⟩:=zUs.mp ef
  obtain ⟨key,e4,e5⟩:=zUs.mp ef
  refine ⟨G,ρ,x,sm,er,e1,λv1 G1 H1 t1 r1=>⟨G1,x,kvs,v1,rfl,t1.s,r1,e2,λa ws G2 H2 t2 h1 h2 h3 rk=>?_⟩⟩
  have tt:=t1.trans t2
  refine ⟨G2,ρ,y,t2.s,er.step tt,e3,λv3 G3 H3 t3 r3=>?_⟩
  have ev:=zBv e4 r3
  rcases (rk.mono t3.g).get (k:=key) with ⟨z,_⟩|⟨d',v,z1,z2,z3⟩
  ·rw [z] at e5;cases e5
  ·rw [e5] at z1;cases z1
   refine ⟨a,v,rfl,?_,k v G3 H3 (tt.trans t3) z3⟩
   rw [ev,<- z2]
   exact zDJ.k (t3.h _ _ h3)
end
section
variable {X:Cx} {e:Expr} {es:List Expr} {pos p cpos:Pos} {fl:ROl}
def zOe (i:Nat):ROo:=λρ=>(ρ[i]?).bind λs=>if s.isOwn=true then some (.ro s) else none
theorem zMZ (i:Nat) (he:PE X e (zBG i)):SS X (.Return (some e) pos) (zOe i):=yY (zFh he) λQ σ H=>by
 rintro ⟨G0,H0,G,ρ,o,st,ef,k⟩
 obtain ⟨s,e1,ef⟩:=zUs.mp ef
 split at ef
 ·rename_i ho
  cases ef
  obtain ⟨a,q1,q2,q3⟩:=st.er.slot i s e1 (Sl.obj_of_own ho)
  exact ⟨_,q1,k a G H st.bs q2 λc m=>⟨q3 c m,st.ows i s a e1 ho q1 c m⟩⟩
 ·cases ef
end
def RetS (K:Fg) (G' H' H:Hp) (s:Sl) (v:V):Prop:=(∃ d,s = .v d/\Rep K G' d v)\/(s.isOwn=true/\∃ a,v = .ref a/\zJg K G' H' s a/\∀ c∈fpS H' s a,H c=none/\G' c=none)
theorem StR.setRet {K:Fg} {G0 H0 G H G' H':Hp} {ρ:Rho} {σ:L2.St} {i:Nat} {s:Sl} {v:V} (st:StR K G0 H0 G H ρ σ) (t:zd G H G' H') (r:RetS K G' H' H s v):StR K G0 H0 G' H' (ρ.set i s) (σ.set i (some v)):=by
 rcases r with ⟨d,rfl,r⟩|⟨ho,a,rfl,r,n⟩
 ·exact (st.step t).setV r
 ·exact st.setNew t ho r n
def spR (K:Fg) (f:List D->Option Sl) (n:Nat):Sp:=λvs H Q _=>∃ G ds s,zf G H/\Reps K G ds vs/\ds.length=n/\f ds=some s/\∀ v G' H',zd G H G' H'->RetS K G' H' H s v->Q v H'
def zT3:Out->Option Sl
 |.rt d=>some (.v d)
 |.ro s=>if s.isOwn=true then some s else none
 |.nx _=>some (.v .non)
 |_=>none
def zSr (N:List Str) (F:ROo) (ds:List D):Option Sl:=(F (ds.map Sl.v++List.replicate (N.length-ds.length) .un)).bind zT3
theorem zMa {N:List Str} {ds:List D} {i:Nat} {u:Sl} (h:(ds.map Sl.v++List.replicate (N.length-ds.length) Sl.un)[i]?=some u) (o:u.isOwn=true):False:=by
 rcases zU2.mp (zVF h) with q|q
 ·obtain ⟨d',_,rfl⟩:=zVT.mp q;cases o
 ·rw [(zWd.mp q).2] at o;cases o
theorem zMb {P:Program} {w:World} {K:Fg} {mg:MGt} {base:Heap} {x qual:Str} {st:Stmt} {fa:Addr} {fd:FuncData} {N ps:List Str} {k:Nat} {F:ROo} {f:List D->Option Sl}
  (FF:Fun K x qual st fa fd) (S:zV N ps (zI st))
  (hbody:∀ (cdv:Value) (A:Around) (outer:List Env) (s:Shared) (H:Hp),zAB k (A.deeper (envOfC qual (zI st) s.heap.objs.size fa cdv))->SSs (zFS CX0 P w K mg base N qual (zI st) fa cdv A outer s H E0).nox (z8 st) F)
  (hf:∀ ds d,ds.length=ps.length->f ds=some d->zSr N F ds=some d):zCe P w K mg base CX0 (k+1) fa fd ps (spR K f ps.length):=by
 refine FF.ok S (λvs H Q E h=>?_) (λcdv A outer s H vs Q E hr h=>?_)
 ·obtain ⟨G,ds,d,_,r,hn,_⟩:=h
  rw [<- r.length,hn]
 ·obtain ⟨G,ds,d,sm,r,hn,ef,kk⟩:=h
  have h1:SSs (zFS CX0 P w K mg base N qual (zI st) fa cdv A outer s H E).nox (z8 st) F:=hbody cdv A outer s H hr
  refine ⟨_,h1,?_⟩
  obtain ⟨o,e1,e2⟩:=zUs.mp (hf ds d hn ef)
  have er:=zGY (N:=N) (H:=H) r
  refine ⟨G,H,G,_,o,⟨er,⟨sm,zf.refl _,zf.refl _,λb o e n=>by rw [e] at n;cases n⟩,λi u a h1 h2 h3=>(zMa h1 h2).elim⟩,e1,?_⟩
  cases o with
  |rt d'=>
   cases e2
   exact λv G' H' b r'=>kk v G' H' ⟨b.gg,b.hh,b.gh,b.fr⟩ (.inl ⟨_,rfl,r'⟩)
  |nx ρ=>
   cases e2
   exact λσ' G' H' st'=>kk .non G' H' ⟨st'.bs.gg,st'.bs.hh,st'.bs.gh,st'.bs.fr⟩ (.inl ⟨_,rfl,qp.mpr rfl⟩)
  |ro s'=>
   simp only [zT3] at e2
   split at e2
   ·rename_i ho
    cases e2
    exact λa G' H' b r' n=>kk _ G' H' ⟨b.gg,b.hh,b.gh,b.fr⟩ (.inr ⟨ho,a,rfl,r',λc m=>⟨(n c m).2,(n c m).1⟩⟩)
   ·cases e2
  |bk ρ=>cases e2
  |ct ρ=>cases e2
  |rm d ρ=>cases e2
structure zRk (P:Program) (w:World) (K:Fg) (mg:MGt) (base:Heap) (k:Nat) (x:Str) (n:Nat) (F:List D->Option Sl):Prop where
 ex:∃ f fd ps,zCe P w K mg base CX0 k f fd ps (spR K F n)/\mg x=some (.ref f)/\PySem.W.keepIn K (.ref f)=true/\L2.zAx K fd ps []
section
variable {X:Cx} {e:Expr} {es:List Expr} {pos p cpos:Pos} {fl:ROl} {k n:Nat} {F:List D->Option Sl} {x y:Str}
def zFY (i:Nat) (fl:ROl) (F:List D->Option Sl):ROo:=λρ=>(fl ρ).bind λds=>(F ds).map λs=>.nx (ρ.set i s)
theorem zIl (i:Nat) {pos':Pos} (h:zRk X.prog X.w X.K X.mg X.base k x n F) (hr:zAB k X.A) (hg:X.env.kindOf x=some .globalImplicit) (hn:(e::es).length=n) (ha:SA X (e::es) fl) (hN:X.N.Nodup) (hi:X.N[i]?=some y) (hy:Loc X.env.scope y)
  (hs:swapsWith (.Call (.Name x p) (e::es) [] cpos) (some (.Name y pos')) pos.line X.env=pure false:=by rfl)
  (hf:X.fn y=true\/X.env.scope.names.lookup y=some .local:=by first|exact .inl rfl|exact .inr rfl|assumption) (hdb:(x == ("__debug__" : Str))=false:=by decide)
  (he:starEach (e::es) X.env=(false,eval e X.env)::starEach es X.env:=by rfl) (hpl:(backTo cpos (starEach es X.env)).any (·.1)=false:=by rfl) :
  SS X (.Assign [.Name y pos'] (.Call (.Name x p) (e::es) [] cpos) pos) (zFY i fl F):=by
 obtain ⟨f,fd,ps,FO,hm,hk,hb⟩:=h.ex
 refine yY (zDw hN hi hy (zEW (E:=E0) FO hr hg hm hk hb .nil zIb ha.pa hdb he hpl) hs hf) λE σ H zz=>?_
 obtain ⟨G0,H0,G,ρ,o,st,ef,kk⟩:=zz
 obtain ⟨ds,e1,ef⟩:=zUs.mp ef
 obtain ⟨s,e2,rfl⟩:=zUt.mp ef
 refine ⟨G,ρ,ds,st.bs.gh,st.er,e1,λvs G1 H1 t1 r1=>?_⟩
 show spR X.K F n (vs ++ []) H1 _ E0
 rw [zVZ]
 exact ⟨G1,ds,s,t1.s,r1,by rw [ha.len _ _ e1,hn],e2,λv G' H' t r=>kk _ G' H' ((st.step t1).setRet t r)⟩
end
def zRl {κ:Type} [DecidableEq κ] {α:Type} (kvs:List (κ×α)) (k:κ) (v:α):List (κ×α):=if (kvs.any λkv=>decide (kv.1=k))=true then kvs.map (λkv=>if kv.1=k then (kv.1,v) else kv) else kvs ++ [(k,v)]
section
variable {K:Fg} {G H:Hp} {κ:Type} [DecidableEq κ]
theorem zGh {k:κ}:∀ {kvs:List (κ×D)} {ws:List (κ×V)},kvs.map (·.1)=ws.map (·.1)->Reps K G (kvs.map (·.2)) (ws.map (·.2))->(zAv kvs k=none/\zAm ws k=none)\/∃ d v,zAv kvs k=some d/\zAm ws k=some v/\Rep K G d v
 | [],[],_,_=>.inl ⟨rfl,rfl⟩
 | [],_::_,h,_=>by cases h
 |_::_,[],h,_=>by cases h
 |(k1,x)::kvs,(k2,w)::ws,h,r=>by
  simp only [zUx,zV9] at h
  obtain ⟨rfl,h⟩:=h
  obtain ⟨r1,r2⟩:=Reps.inv r
  by_cases hk:k1=k
  ·right
   exact ⟨x,w,by simp [zAv,hk],by simp [zAm,hk],r1⟩
  ·rcases zGh (k:=k) h r2 with ⟨q1,q2⟩|⟨d,v,q1,q2,q3⟩
   ·left
    exact ⟨by simpa [zAv,hk] using q1,by simpa [zAm,hk] using q2⟩
   ·right
    exact ⟨d,v,by simpa [zAv,hk] using q1,by simpa [zAm,hk] using q2,q3⟩
theorem zJu {α β:Type} {k:κ}:∀ {kvs:List (κ×α)} {ws:List (κ×β)},kvs.map (·.1)=ws.map (·.1)->(kvs.any λkv=>decide (kv.1=k))=ws.any λkv=>decide (kv.1=k)
 | [],[],_=>rfl
 | [],_::_,h=>by cases h
 |_::_,[],h=>by cases h
 |(k1,x)::kvs,(k2,w)::ws,h=>by
  simp only [zUx,zV9] at h
  obtain ⟨rfl,h⟩:=h
  simp only [zWO,zJu h]
theorem zHt {k:κ} {d:D} {v:V} (r:Rep K G d v):∀ {kvs:List (κ×D)} {ws:List (κ×V)},kvs.map (·.1)=ws.map (·.1)->Reps K G (kvs.map (·.2)) (ws.map (·.2)) ->
  (kvs.map λkv=>if kv.1=k then (kv.1,d) else kv).map (·.1)=(ws.map λkv=>if kv.1=k then (kv.1,v) else kv).map (·.1)/\Reps K G ((kvs.map λkv=>if kv.1=k then (kv.1,d) else kv).map (·.2)) ((ws.map λkv=>if kv.1=k then (kv.1,v) else kv).map (·.2))
 | [],[],_,_=>⟨rfl,Reps.nil⟩
 | [],_::_,h,_=>by cases h
 |_::_,[],h,_=>by cases h
 |(k1,x)::kvs,(k2,w)::ws,h,q=>by
  simp only [zUx,zV9] at h
  obtain ⟨rfl,h⟩:=h
  obtain ⟨r1,r2⟩:=Reps.inv q
  obtain ⟨i1,i2⟩:=zHt r h r2
  by_cases hk:k1=k
  ·simp only [zUx,hk,zVp]
   exact ⟨by rw [i1],Reps.cons r i2⟩
  ·simp only [zUx,hk,zV8]
   exact ⟨by rw [i1],Reps.cons r1 i2⟩
theorem zOf {k:κ} {d:D} {v:V} (r:Rep K G d v) {kvs:List (κ×D)} {ws:List (κ×V)} (h:kvs.map (·.1)=ws.map (·.1)) (q:Reps K G (kvs.map (·.2)) (ws.map (·.2))) :
  (zRl kvs k d).map (·.1)=(zCQ ws k v).map (·.1)/\Reps K G ((zRl kvs k d).map (·.2)) ((zCQ ws k v).map (·.2)):=by
 unfold zRl zCQ
 rw [zJu h]
 split
 ·exact zHt r h q
 ·rw [zVK,zVK,zVK,zVK]
  exact ⟨by rw [h];rfl,q.append (Reps.cons r Reps.nil)⟩
end
def gT' (ρ:Rho) (i:Nat):Option (List (List Key×D)):=match ρ[i]? with
 |some (.o _ (.p (.t kvs)))=>some kvs
 |_=>none
theorem zRm {ρ:Rho} {i:Nat} {kvs:List (List Key×D)} (h:gT' ρ i=some kvs):∃ c,ρ[i]?=some (.o c (.p (.t kvs))):=by
 unfold gT' at h
 split at h
 ·rename_i c l q;cases h;exact ⟨c,q⟩
 ·cases h
theorem t_at {K:Fg} {G H:Hp} {ρ:Rho} {σ:L2.St} {i:Nat} {c:Option Addr} {kvs:List (List Key×D)} (e:Er K G H ρ σ) (h:ρ[i]?=some (.o c (.p (.t kvs)))):∃ a ws,σ[i]?=some (some (.ref a))/\G a=none/\H a=some (.dT ws)/\kvs.map (·.1)=ws.map (·.1)/\Reps K G (kvs.map (·.2)) (ws.map (·.2))/\∀ c',c=some c'->a=c':=by
 obtain ⟨a,q1,q2,q3⟩:=e.slot i _ h rfl
 obtain ⟨ws,z1,z2,z3⟩:=q2.1.1
 exact ⟨a,ws,q1,q3 a (zUy.mpr rfl),z1,z2,z3,q2.2⟩
section
variable {X:Cx} {o a b ke:Expr} {pos pos' tpos:Pos} {i:Nat} {f fk:ROd} {x:Str}
def tGet (i:Nat) (fk:ROd):ROd:=λρ=>(gT' ρ i).bind λkvs=>(fk ρ).bind λd=>(zMW d).bind λk=>zAv kvs k
theorem zRn (hu:X.A.units+1<cLine) (i:Nat) (ho:PE X o (zBG i)) (hk:SE X ke fk) (hs:zSo ke:=by intro _ _;rfl):SE X (.Subscript o ke pos) (tGet i fk):=zAy (zGT hu ho hk hs) λσ H Q=>by
 rintro ⟨G,ρ,d,s,er,ef,k⟩
 obtain ⟨kvs,e1,ef⟩:=zUs.mp ef
 obtain ⟨dk,e2,ef⟩:=zUs.mp ef
 obtain ⟨key,e3,e4⟩:=zUs.mp ef
 obtain ⟨c,e1⟩:=zRm e1
 obtain ⟨a,ws,q1,q2,q3,q4,q5,_⟩:=t_at er e1
 refine ⟨_,q1,G,ρ,dk,s,er,e2,λv G' H' t r=>?_⟩
 obtain ⟨kb,rfl,hkb⟩:=zBM e3 r
 rcases zGh (k:=key) q4 (Reps.mono t.g _ _ q5) with ⟨z,_⟩|⟨d',v',z1,z2,z3⟩
 ·rw [e4] at z;cases z
 ·rw [e4] at z1;cases z1
  exact ⟨a,v',rfl,by rw [<- z2];exact zDJ.t (t.h _ _ q3) (t.s _ _ hkb),k _ G' H' t z3⟩
def zT4 (i:Nat) (fk:ROd):ROb:=λρ=>(fk ρ).bind λd=>(gT' ρ i).bind λkvs=>(zMW d).map λk=>!(zAv kvs k).isSome
theorem zRo (hu:X.A.units+1<cLine) (i:Nat) (ho:PE X o (zBG i)) (hk:SE X ke fk) (hm:behindInMarks .NotIn o=false:=by rfl):SB X (.Compare ke [.NotIn] [o] pos) (zT4 i fk):=
 zHX (zPt (zLo hu hk ho) hm) λσ H Q=>by
  rintro ⟨G,ρ,bb,s,er,ef,k⟩
  obtain ⟨dk,e2,ef⟩:=zUs.mp ef
  obtain ⟨kvs,e1,ef⟩:=zUs.mp ef
  obtain ⟨key,e3,rfl⟩:=zUt.mp ef
  obtain ⟨c,e1⟩:=zRm e1
  refine ⟨G,ρ,dk,s,er,e2,λv G' H' t r=>?_⟩
  obtain ⟨kb,rfl,hkb⟩:=zBM e3 r
  obtain ⟨a,ws,q1,q2,q3,q4,q5,_⟩:=t_at (er.step t) e1
  refine ⟨_,q1,a,_,rfl,zDJ.t q3 (t.s _ _ hkb),_,rfl,?_⟩
  rcases zGh (k:=key) q4 q5 with ⟨z,z'⟩|⟨d',v',z1,z2,z3⟩
  ·rw [z'];have:=k G' H' t;rw [z] at this;exact this
  ·rw [z2];have:=k G' H' t;rw [z1] at this;exact this
def zOg (i:Nat) (fk f:ROd):ROo:=λρ=>(f ρ).bind λd=>(gT' ρ i).bind λkvs=>(fk ρ).bind λdk=>(zMW dk).bind λk=>if kvs.length<16000000 then some (.nx (ρ.set i (.o none (.p (.t (zRl kvs k d)))))) else none
theorem zRp (hu:X.A.units+1<cLine) (i:Nat) (ho:PE X o (zBG i)) (hk:SE X ke fk) (ha:SE X a f) (hs:swapsWith a (some (.Subscript o ke tpos)) pos.line X.env=pure false:=by rfl) :
  SS X (.Assign [.Subscript o ke tpos] a pos) (zOg i fk f):=
 yY (zLp hu ho hk ha hs) λE σ H=>by
  rintro ⟨G0,H0,G,ρ,o,st,ef,k⟩
  obtain ⟨d,e1,ef⟩:=zUs.mp ef
  obtain ⟨kvs,e2,ef⟩:=zUs.mp ef
  obtain ⟨dk,e3,ef⟩:=zUs.mp ef
  obtain ⟨key,e4,ef⟩:=zUs.mp ef
  split at ef
  ·rename_i hl
   cases ef
   obtain ⟨c,e2⟩:=zRm e2
   refine ⟨G,ρ,d,st.bs.gh,st.er,e1,λv G1 H1 t1 r1=>?_⟩
   obtain ⟨a1,ws,q1,q2,q3,q4,q5,_⟩:=t_at (st.step t1).er e2
   refine ⟨_,q1,G1,ρ,dk,t1.s,st.er.step t1,e3,λv2 G2 H2 t2 r2=>?_⟩
   have st':=(st.step t1).step t2
   obtain ⟨a2,ws2,w1,w2,w3,w4,w5,w6⟩:=t_at st'.er e2
   rw [q1] at w1;cases w1
   obtain ⟨kb,rfl,hkb⟩:=zBM e4 r2
   have hlen:ws2.length<sizeLine:=by
    have:=zVw List.length w4
    simp only [zU4] at this
    rw [<- this];exact zU8 hl (by decide)
   obtain ⟨p1,p2⟩:=zOf (k:=key) (Rep.mono t2.g _ _ r1) w4 w5
   refine ⟨a1,_,rfl,zLl.t w3 (t2.s _ _ hkb) hlen,k σ G2 _ (st'.mutG (u:=.o c (.p (.t kvs))) (w:=.o none (.p (.t (zRl kvs key d)))) e2 rfl rfl q1 (zf.refl _) (λb x e=>?_) (λb x e n=>by rw [n] at e;cases e) (λb x e n=>?_) ⟨⟨⟨_,zN,p1,p2⟩,by simp [fpO,fpF]⟩,λ_ z=>by cases z⟩ λp m=>?_)⟩
   ·rw [zJ (λz=>by rw [z,w2] at e;cases e)];exact t2.s _ _ e
   ·rw [zJ (λz=>n (zUy.mpr z))];exact e
   ·cases zUy.mp m;exact ⟨.inl (zUy.mpr rfl),w2⟩
  ·cases ef
def zRq (tk tv:TE):TE:=λσ H Q=>∀ p,H p=none->tk σ (upd H p (.dT [])) λx H1=>tv σ H1 λy H2=>∃ kb ks,x = .ref kb/\H2 kb=some (.tup (ks.map kV))/\H2 p=some (.dT [])/\Q (.ref p) (upd H2 p (.dT [(ks,y)]))
theorem zMc {tk tv:TE} (hu:X.A.units+1<cLine) (hk:PE X ke tk) (hv:PE X a tv):PE X (.Dict [some ke] [a] pos) (zRq tk tv):=by
 intro pins s σ H Q I q
 have hn:=I.hok.fresh (zVA s.heap.objs.size)
 have I1:=I.laid (a:=s.heap.objs.size) (o:=.dT []) (h':=s.heap.push { cls:=.type "dict",data:=.dict #[] }) (t':=s.toks) (λ_ _ q=>zU5 _ q) (zVA _) (zJe s.heap I.big)
 refine wpAny_Dict_any rfl rfl (by simp) (by simp) (pairTrees_cons_walk (thn (hk pins _ σ _ _ I1 (q _ hn)) λu s1 ⟨x,H1,I1,rx,q1⟩=>thn (hv pins s1 σ H1 _ I1 q1) λw2 s2 ⟨y,H2,I2,ry,kb,ks,ex,ek,ed,q2⟩=>pairTrees_nil_walk ?_))
 subst ex
 cases rx
 obtain ⟨z,hd,xs,rel,dd⟩:=zRA I2.hok ed
 cases rel
 unfold storeAll
 simp only [List.forIn_cons,List.forIn_nil]
 refine zUz (zUz (wpAny_dictSet_heap (knd:=tupleKind (z6 X.prog X.w)) (show X.A.units<cLine by omega) (zCt I2.hok ek) dd (λh' dd' hs=>zU6 (zU6 ?_)) (zWS _)))
 obtain ⟨qq,es,ep,hq,h2,h3,h4,_,h5⟩:=dd'
 refine ⟨.ref s.heap.objs.size,_,?_,rfl,q2⟩
 refine zEZ (ob:=.dT [(ks,y)]) I2 (by rw [ed];exact True.intro) hs ⟨qq,hq⟩ ⟨by rw [zVY,zWZ];omega,hd,[(ks,kb,w2)],.cons ⟨rfl,?_,ry⟩ .nil,qq,es,ep,hq,h2,h3,h4,h5⟩
 show upd H2 s.heap.objs.size _ kb=_
 rw [zJ (zQf ek ed (λz=>nomatch z))]
 exact ek
def zKr (i:Nat) (fk f:ROd):ROo:=λρ=>(fk ρ).bind λdk=>(f ρ).bind λd=>(zMW dk).map λk=>.nx (ρ.set i (.o none (.p (.t [(k,d)]))))
theorem zRr (hu:X.A.units+1<cLine) (i:Nat) (hk:SE X ke fk) (ha:SE X a f) (hN:X.N.Nodup) (hi:X.N[i]?=some x) (hx:Loc X.env.scope x) {p1:Pos} (hs:swapsWith (.Dict [some ke] [a] p1) (some (.Name x pos')) pos.line X.env=pure false:=by rfl)
  (hf:X.fn x=true\/X.env.scope.names.lookup x=some .local:=by first|exact .inl rfl|exact .inr rfl|assumption):SS X (.Assign [.Name x pos'] (.Dict [some ke] [a] p1) pos) (zKr i fk f):=
 yY (zDw hN hi hx (zMc hu hk ha) hs hf) λQ σ H=>by
  rintro ⟨G0,H0,G,ρ,o,st,ef,k⟩
  obtain ⟨dk,e1,ef⟩:=zUs.mp ef
  obtain ⟨d,e2,ef⟩:=zUs.mp ef
  obtain ⟨key,e3,rfl⟩:=zUt.mp ef
  intro p hp
  have t0:zd G H G (upd H p (.dT [])):=zd.newH st.bs.gh hp
  refine ⟨G,ρ,dk,t0.s,st.er.step t0,e1,λv1 G1 H1 t1 r1=>?_⟩
  refine ⟨G1,ρ,d,t1.s,(st.er.step t0).step t1,e2,λv2 G2 H2 t2 r2=>?_⟩
  obtain ⟨kb,rfl,hkb⟩:=zBM e3 r1
  have tt:=t1.trans t2
  have ep:H2 p=some (.dT []):=tt.h _ _ zN
  have gp:G2 p=none:=by
   cases q:G2 p with
   |none=>rfl
   |some o=>have:=tt.f p o q (st.bs.gh.free hp);rw [zN] at this;cases this
  refine ⟨kb,key,rfl,t2.h _ _ (t1.s _ _ hkb),ep,?_⟩
  have t3:zd G H G2 (upd H2 p (.dT [(key,v2)])):=⟨tt.g,λb u e=>by
    rw [zJ (yl e hp)];exact (t0.trans tt).h _ _ e,λb u e=>by
    rw [zJ (λz=>by rw [z,gp] at e;cases e)];exact t2.s _ _ e,(t0.trans tt).f⟩
  exact k _ G2 _ (st.setNew t3 (w:=.o none (.p (.t [(key,d)]))) rfl ⟨⟨⟨_,zN,rfl,Reps.cons r2 Reps.nil⟩,by simp [fpO,fpF]⟩,λ_ z=>by cases z⟩ λc m=>by
   cases zUy.mp m;exact ⟨hp,gp⟩)
end
def gML (ρ:Rho) (i:Nat):Option (List (Key×List D)):=match ρ[i]? with
 |some (.o _ (.p (.ml kvs)))=>some kvs
 |_=>none
theorem zMd {ρ:Rho} {i:Nat} {kvs:List (Key×List D)} (h:gML ρ i=some kvs):∃ c,ρ[i]?=some (.o c (.p (.ml kvs))):=by
 unfold gML at h
 split at h
 ·rename_i c l q;cases h;exact ⟨c,q⟩
 ·cases h
theorem zIm {K:Fg} {G H:Hp} {ρ:Rho} {σ:L2.St} {i:Nat} {c:Option Addr} {kvs:List (Key×List D)} (e:Er K G H ρ σ) (h:ρ[i]?=some (.o c (.p (.ml kvs)))):∃ a ws,σ[i]?=some (some (.ref a))/\H a=some (.dK ws)/\kvs.map (·.1)=ws.map (·.1)/\yF K G H (kvs.map (·.2)) (ws.map (·.2))/\(a::zDK ws).Nodup/\(∀ p∈a::zDK ws,G p=none)/\(∀ c',c=some c'->a=c')/\fpS H (.o c (.p (.ml kvs))) a=a::zDK ws:=by
 obtain ⟨a,q1,q2,q3⟩:=e.slot i _ h rfl
 obtain ⟨ws,z1,z2,z3⟩:=q2.1.1
 have fe:fpS H (.o c (.p (.ml kvs))) a=a::zDK ws:=by simp only [fpS,fpO,fpF];rw [z1];rfl
 have nd:=q2.1.2
 have nd:(fpS H (.o c (.p (.ml kvs))) a).Nodup:=nd
 rw [fe] at nd q3
 exact ⟨a,ws,q1,z1,z2,z3,nd,q3,q2.2,fe⟩
section
variable {X:Cx} {o a b ke e:Expr} {pos pos' p1:Pos} {i:Nat} {f fk:ROd} {x:Str}
def zMe (i:Nat):ROo:=λρ=>some (.nx (ρ.set i (.o none (.p (.ml [])))))
theorem zOh (i:Nat) (hN:X.N.Nodup) (hi:X.N[i]?=some x) (hx:Loc X.env.scope x) (hs:swapsWith (.Dict [] [] p1) (some (.Name x pos')) pos.line X.env=pure false:=by rfl)
  (hf:X.fn x=true\/X.env.scope.names.lookup x=some .local:=by first|exact .inl rfl|exact .inr rfl|assumption):SS X (.Assign [.Name x pos'] (.Dict [] [] p1) pos) (zMe i):=
 yY (zDw hN hi hx zJf hs hf) λQ σ H=>by
  rintro ⟨G0,H0,G,ρ,o,st,ef,k⟩
  cases ef
  intro p hp
  exact k _ G _ (st.setNew (zd.newH st.bs.gh hp) (w:=.o none (.p (.ml []))) rfl ⟨⟨⟨_,zN,rfl,rfl⟩,by simp [fpO,fpF,zN,inK,zDK]⟩,λ_ z=>by cases z⟩ λc m=>by
   have:c=p:=by simpa [fpS,fpO,fpF,zN,inK,zDK] using m
   subst this;exact ⟨hp,st.bs.gh.free hp⟩)
def zMf (i:Nat):ROl:=λρ=>(gML ρ i).bind λkvs=>zFU (.lst (kvs.map λq=>zLJ q.1))
theorem zMg (i:Nat) (hcalm:X.calm=true) (hg:Gl X "sorted") (hm:X.mg "sorted" = none) (ho:PE X e (zBG i))
  (hs:starEach [e] X.env=(false,eval e X.env)::starEach [] X.env:=by rfl) (hpl:(backTo pos (starEach [] X.env)).any (·.1)=false:=by rfl):SF X (.Call (.Name "sorted" p1) [e] [] pos) (zMf i):=
 zAy (zCq (zC5 hcalm) hg hm zEG (yD ho yy hs) (by decide) (by decide) hs hpl) λσ H Q=>by
  rintro ⟨G,ρ,ys,s,er,ef,k⟩
  obtain ⟨kvs,e1,e2⟩:=zUs.mp ef
  obtain ⟨c,e1⟩:=zMd e1
  obtain ⟨a,ws,q1,q3,q4,_⟩:=zIm er e1
  refine ⟨_,q1,a,ws,ys,rfl,q3,?_,λl us hl r=>?_⟩
  ·rw [<- e2]
   have z:(ws.map λq=>zLJ q.1)=(kvs.map λq=>zLJ q.1):=by
    have:=zVw (List.map zLJ) q4
    rw [zVt,zVt] at this
    exact this.symm
   rw [z]
  ·exact k l us G _ (zd.newH s hl) hl (s.free hl) zN (r _ _)
def zRs (i:Nat) (fk:ROd):ROd:=λρ=>(gML ρ i).bind λkvs=>(fk ρ).bind λd=>(zFs d).bind λk=>(zAv kvs k).map .lst
theorem zOi (hu:X.A.units+1<cLine) (i:Nat) (ho:PE X o (zBG i)) (hk:SE X ke fk) (hs:zSo ke:=by intro _ _;rfl):SR X (.Subscript o ke pos) (zRs i fk):=zAy (zGT hu ho hk hs) λσ H Q=>by
 rintro ⟨G,ρ,d,s,er,ef,k⟩
 obtain ⟨kvs,e1,ef⟩:=zUs.mp ef
 obtain ⟨dk,e2,ef⟩:=zUs.mp ef
 obtain ⟨key,e3,ef⟩:=zUs.mp ef
 obtain ⟨xs,e4,rfl⟩:=zUt.mp ef
 obtain ⟨c,e1⟩:=zMd e1
 obtain ⟨a,ws,q1,q3,_⟩:=zIm er e1
 refine ⟨_,q1,G,ρ,dk,s,er,e2,λv G' H' t r=>?_⟩
 have ev:=zBv e3 r
 subst ev
 obtain ⟨a2,ws2,w1,w3,w4,w5,w6,w7,_⟩:=zIm (er.step t) e1
 rw [q1] at w1;cases w1
 rcases yF.get (k:=key) w4 w5 with ⟨z,_⟩|⟨xs',b',us,g1,g2,g3,g4,g5⟩
 ·rw [e4] at z;cases z
 ·rw [e4] at g1;cases g1
  exact ⟨a,.ref b',rfl,by rw [<- g2];exact zDJ.k (k:=key) w3,k _ G' H' t (.ow (w7 b' (zUu _ g5)) g3 g4)⟩
end
section
variable {X:Cx} {o a ke:Expr} {pos apos cpos:Pos} {fe fk:ROd}
def zJv (i:Nat) (fk fe:ROd):ROo:=λρ=>(gML ρ i).bind λkvs=>(fk ρ).bind λkd=>(zFs kd).bind λk=>match zAv kvs k with
  |some xs=>if xs.length<1000000 then (fe ρ).map λd=>.nx (ρ.set i (.o none (.p (.ml (zCk k (xs ++ [d]) kvs))))) else none
  |none=>if kvs.length<1000000 then (fe (ρ.set i (.o none (.p (.ml (kvs ++ [(k,[])])))))).map λd=>.nx (ρ.set i (.o none (.p (.ml (kvs ++ [(k,[d])]))))) else none
theorem zOj {sp dp lp:Pos} (i:Nat) (hu:X.A.units+1<cLine) (ho:PE X o (zBG i)) (hk:SE X ke fk) (ha:SE X a fe)
  (hbase1:attributeBase o "setdefault" X.env (eval o X.env)=eval o X.env:=by rfl)
  (hfew1:((backTo dp (starEach [ke,.List [] lp] X.env)).all (λx=>!x.1) && (backToKw dp (keywordEach [] X.env)).all (λx=>x.1.isSome)
   && decide ([ke,.List [] lp].length+([]:List Keyword).length+(if ([]:List Keyword).isEmpty then 0 else 1)<30))=true:=by rfl)
  (hline1:(sp.endLine == dp.line)=true:=by rfl) (hs1:starEach [ke,.List [] lp] X.env=(false,eval ke X.env)::starEach [.List [] lp] X.env:=by rfl) (hs2:starEach [.List [] lp] X.env=(false,eval (.List [] lp) X.env)::starEach [] X.env:=by rfl) (hplain1:(backTo dp (starEach [.List [] lp] X.env)).any (·.1)=false:=by rfl)
  (hbase:attributeBase (.Call (.Attribute o "setdefault" sp) [ke,.List [] lp] [] dp) "append" X.env (eval (.Call (.Attribute o "setdefault" sp) [ke,.List [] lp] [] dp) X.env)=eval (.Call (.Attribute o "setdefault" sp) [ke,.List [] lp] [] dp) X.env:=by rfl)
  (hfew:((backTo cpos (starEach [a] X.env)).all (λx=>!x.1) && (backToKw cpos (keywordEach [] X.env)).all (λx=>x.1.isSome)
   && decide ([a].length+([]:List Keyword).length+(if ([]:List Keyword).isEmpty then 0 else 1)<30))=true:=by rfl)
  (hline:(apos.endLine == cpos.line)=true:=by rfl) (hs:starEach [a] X.env=(false,eval a X.env)::starEach [] X.env:=by rfl) (hplain:(backTo cpos (starEach [] X.env)).any (·.1)=false:=by rfl)
  (hsw:swapsWith (.Call (.Attribute (.Call (.Attribute o "setdefault" sp) [ke,.List [] lp] [] dp) "append" apos) [a] [] cpos) none pos.line X.env=pure false:=by rfl) :
  SS X (.Expr (.Call (.Attribute (.Call (.Attribute o "setdefault" sp) [ke,.List [] lp] [] dp) "append" apos) [a] [] cpos) pos) (zJv i fk fe):=
 yY (zBq (zGQ zV1 zWV zWW zBr
     (zGQ zWy zVv PySem.F.type_dict_setdefault (zC7 hu) ho (yD hk (yD (zLc yy) yy hs2) hs1) hbase1 hfew1 hline1 hs1 hplain1) (yD ha yy hs) hbase hfew hline hs hplain) hsw) λE σ H=>by
  rintro ⟨G0,H0,G,ρ,o,st,ef,k⟩
  obtain ⟨kvs,e1,ef⟩:=zUs.mp ef
  obtain ⟨kd,e5,ef⟩:=zUs.mp ef
  obtain ⟨kk,e6,ef⟩:=zUs.mp ef
  obtain ⟨c,e1⟩:=zMd e1
  obtain ⟨b,vs,q1,z1,_⟩:=zIm st.er e1
  refine ⟨_,q1,.inr (.inr (.inl ⟨rfl,.inl ⟨vs,z1⟩⟩)),G,ρ,kd,st.bs.gh,st.er,e5,λv1 G1 H1 t1 r1=>?_⟩
  have ev:=zBv e6 r1
  subst ev
  have st1:=st.step t1
  obtain ⟨b2,vs2,p1,y1,y2,y3,p7,p6,_,fp1⟩:=zIm st1.er e1
  rw [q1] at p1;cases p1
  rw [t1.h _ _ z1] at y1;cases y1
  have hb1:=t1.h _ _ z1
  have nd:=zVa.mp p7
  refine ⟨zWS _,λp hp=>?_⟩
  have t2:zd G1 H1 G1 (upd H1 p (.lst [])):=zd.newH t1.s hp
  have st2:=st1.step t2
  have hb2:=t2.h _ _ hb1
  have hpb:p≠b:=λz=>by rw [z,hb1] at hp;cases hp
  have fpg:∀ {H':Hp} {l:List (Key×List D)} {ws:List (Key×V)} {c':Option Addr},H' b=some (.dK ws)->fpS H' (.o c' (.p (.ml l))) b=b::zDK ws:=λ{H' l ws c'} e=>by simp only [fpS,fpO,fpF];rw [e];rfl
  cases g0:zAv kvs kk with
  |some xs=>
   rw [g0] at ef
   simp only at ef
   split at ef
   ·rename_i hlen
    obtain ⟨d,e7,rfl⟩:=zUt.mp ef
    rcases yF.get (k:=kk) y2 y3 with ⟨g1,_⟩|⟨xs',b',us,g1,g2,g3,g4,g5⟩
    ·rw [g0] at g1;cases g1
    ·rw [g0] at g1;cases g1
     have hbb:b'≠b:=λz=>nd.1 (by rw [<- z];exact g5)
     refine ⟨b,_,.ref p,rfl,rfl,.inl ⟨.ref b',by rw [<- g2];exact zDJ.k (k:=kk) hb2,.inl ⟨vs,hb2⟩,.inl ⟨rfl,us,SqL.of (t2.h _ _ g3)⟩,G1,ρ,d,t2.s,st2.er,e7,λv G3 H3 t3 r3=>?_⟩⟩
     have st3:=st2.step t3
     have g3':=t3.h _ _ (t2.h _ _ g3)
     have hb3:=t3.h _ _ hb2
     obtain ⟨b4,vs4,w1,w2,w3,w4,w5,fr3,_,fp3⟩:=zIm st3.er e1
     rw [q1] at w1;cases w1
     rw [hb3] at w2;cases w2
     have kb':upd H3 b' (.lst (us ++ [v])) b=some (.dK vs):=by rw [zJ (Ne.symm hbb)];exact hb3
     refine ⟨b',us,v,rfl,rfl,g3',zU8 (by rw [<- g4.length];exact hlen) (by decide),k σ G3 _ (st3.mutG (u:=.o c (.p (.ml kvs))) (w:=.o none (.p (.ml (zCk kk (xs ++ [d]) kvs)))) e1 rfl rfl q1 (zf.refl _) (λq x e=>?_) (λq x e n=>by rw [n] at e;cases e) (λq x e np=>?_) ⟨⟨⟨vs,kb',by rw [zA2];exact y2,?_⟩,?_⟩,λ_ z=>by cases z⟩ λq mm=>?_)⟩
     ·rw [zJ (λz=>by rw [z,fr3 b' (zUu _ g5)] at e;cases e)];exact t3.s _ _ e
     ·rw [zJ (λz=>np (by rw [fp3,z];exact zUu _ g5))];exact e
     ·exact yF.set zN ((Reps.mono (t2.trans t3).g _ _ g4).append (Reps.cons r3 Reps.nil)) (λq x np e=>by rw [zJ np];exact e) y2 w4 nd.2 g2
     ·have:(fpS (upd H3 b' (.lst (us ++ [v]))) (.o none (.p (.ml (zCk kk (xs ++ [d]) kvs)))) b).Nodup:=by rw [fpg kb'];exact p7
      exact this
     ·rw [fpg kb'] at mm
      exact ⟨.inl (by rw [fp3];exact mm),fr3 q mm⟩
   ·cases ef
  |none=>
   rw [g0] at ef
   simp only at ef
   split at ef
   ·rename_i hlen
    obtain ⟨d,e7,rfl⟩:=zUt.mp ef
    have hv:zAm vs kk=none:=by
     rcases yF.get (k:=kk) y2 y3 with ⟨_,g2⟩|⟨xs',b',us,g1,_⟩
     ·exact g2
     ·rw [g0] at g1;cases g1
    have hlv:vs.length<sizeLine:=by
     have:=zVw List.length y2
     simp only [zU4] at this
     rw [<- this];exact zU8 hlen (by decide)
    have hput:zCQ vs kk (.ref p)=vs ++ [(kk,.ref p)]:=zJd _ hv
    refine ⟨b,_,.ref p,rfl,rfl,.inr ⟨by rw [<- hv];exact zDJ.k (k:=kk) hb2,_,zLl.k (k:=kk) hb2 hlv,?_⟩⟩
    rw [hput]
    have hbn:upd (upd H1 p (.lst [])) b (.dK (vs ++ [(kk,.ref p)])) b=some (.dK (vs ++ [(kk,.ref p)])):=zN
    have hpn:upd (upd H1 p (.lst [])) b (.dK (vs ++ [(kk,.ref p)])) p=some (.lst []):=by rw [zJ hpb,zN]
    have gp:G1 p=none:=t1.s.free hp
    have pni:p∉zDK vs:=λm=>by
     obtain ⟨o,e⟩:=y3.there p (qB.mp m);rw [hp] at e;cases e
    have ndn:(b::(zDK vs ++ [p])).Nodup:=by
     rw [zVa,zVn]
     refine ⟨λm=>?_,nd.2,by simp,λx hx y hy=>?_⟩
     ·rcases zU2.mp m with m|m
      ·exact nd.1 m
      ·exact hpb (zUy.mp m).symm
     ·cases zUy.mp hy
      intro z;subst z;exact pni hx
    have fpn:∀ {H':Hp} {l:List (Key×List D)} {c':Option Addr},H' b=some (.dK (vs ++ [(kk,.ref p)]))->fpS H' (.o c' (.p (.ml l))) b=b::(zDK vs ++ [p]):=λ{H' l c'} e=>by rw [fpg e,zBw]
    have st3:=st1.mutG (H':=upd (upd H1 p (.lst [])) b (.dK (vs ++ [(kk,.ref p)]))) (G':=G1) (u:=.o c (.p (.ml kvs))) (w:=.o none (.p (.ml (kvs ++ [(kk,[])])))) e1 rfl rfl q1 (zf.refl _)
     (λq x e=>by
      rw [zJ (λz=>by rw [z,p6 b (zU0 ..)] at e;cases e),zJ (λz=>by rw [z,gp] at e;cases e)];exact t1.s _ _ e)
     (λq x e n=>by rw [n] at e;cases e)
     (λq x e np=>by
      rw [zJ (λz=>np (by rw [fp1,z];exact zU0 ..)),zJ (λz=>by rw [z,hp] at e;cases e)];exact e)
     ⟨⟨⟨_,hbn,by simp [y2],by
       rw [zVK,zVK]
       refine yF.snoc hpn Reps.nil (y3.same (zf.refl _) λq m o z=>?_)
       rw [zJ (λzz=>nd.1 (by rw [<- zz];exact qB.mpr m)),zJ (λzz=>by rw [zz,hp] at z;cases z)];exact z⟩,by
       have:(fpS (upd (upd H1 p (.lst [])) b (.dK (vs ++ [(kk,.ref p)]))) (.o none (.p (.ml (kvs ++ [(kk,[])])))) b).Nodup:=by rw [fpn hbn];exact ndn
       exact this⟩,λ_ z=>by cases z⟩
     (λq mm=>by
      rw [fpn hbn] at mm
      rcases zU1.mp mm with z|mm
      ·subst z;exact ⟨.inl (by rw [fp1];exact zU0 ..),p6 _ (zU0 ..)⟩
      ·rcases zU2.mp mm with mm|mm
       ·exact ⟨.inl (by rw [fp1];exact zUu _ mm),p6 _ (zUu _ mm)⟩
       ·cases zUy.mp mm;exact ⟨.inr hp,gp⟩)
    have hil:i<ρ.length:=(zU7.mp e1).1
    have hu3:(ρ.set i (.o none (.p (.ml (kvs ++ [(kk,[])])))))[i]?=some (.o none (.p (.ml (kvs ++ [(kk,[])])))):=zVQ hil
    refine ⟨.inl ⟨rfl,[],SqL.of hpn⟩,G1,_,d,st3.bs.gh,st3.er,e7,λv G4 H4 t4 r4=>?_⟩
    have st4:=st3.step t4
    have hb4:=t4.h _ _ hbn
    obtain ⟨b5,vs5,w1,x1,x2,x3,w7,w6,_,fp4⟩:=zIm st4.er hu3
    rw [q1] at w1;cases w1
    rw [hb4] at x1;cases x1
    rw [zBw] at w6 w7 fp4
    have kb':upd H4 p (.lst ([] ++ [v])) b=some (.dK (vs ++ [(kk,.ref p)])):=by rw [zJ (Ne.symm hpb)];exact hb4
    have gv:zAm (vs ++ [(kk,V.ref p)]) kk=some (.ref p):=zGf hv
    refine ⟨p,[],v,rfl,rfl,t4.h _ _ hpn,by decide,?_⟩
    have fin:=st4.mutG (H':=upd H4 p (.lst ([] ++ [v]))) (G':=G4) (u:=.o none (.p (.ml (kvs ++ [(kk,[])])))) (w:=.o none (.p (.ml (zCk kk [d] (kvs ++ [(kk,[])]))))) hu3 rfl rfl q1 (zf.refl _)
     (λq x e=>by rw [zJ (λz=>by rw [z,w6 p (by simp)] at e;cases e)];exact t4.s _ _ e)
     (λq x e n=>by rw [n] at e;cases e)
     (λq x e np=>by rw [zJ (λz=>np (by rw [fp4,z];simp))];exact e)
     ⟨⟨⟨_,kb',by rw [zA2];exact x2,yF.set zN (Reps.cons r4 Reps.nil) (λq x np e=>by rw [zJ np];exact e) x2 x3 (by rw [zBw];exact (zVa.mp ndn).2) gv⟩,by
       have:(fpS (upd H4 p (.lst ([] ++ [v]))) (.o none (.p (.ml (zCk kk [d] (kvs ++ [(kk,[])]))))) b).Nodup:=by rw [fpn kb'];exact ndn
       exact this⟩,λ_ z=>by cases z⟩
     (λq mm=>by rw [fpn kb'] at mm;exact ⟨.inl (by rw [fp4];exact mm),w6 q mm⟩)
    rw [zGe g0,List.set_set] at fin
    exact k σ G4 _ fin
   ·cases ef
end
def zDd (ρ:Rho) (i:Nat):Option Ob:=match ρ[i]? with
 |some (.l xs)=>some (.p (.l xs))
 |some (.m kvs)=>some (.p (.m kvs))
 |some (.o _ x)=>some x
 |some (.b _ x)=>some x
 |_=>none
theorem zJw {K:Fg} {G H:Hp} {ρ:Rho} {σ:L2.St} {i:Nat} {x:Ob} (e:Er K G H ρ σ) (h:zDd ρ i=some x):∃ a,σ[i]?=some (some (.ref a))/\At K G H x a:=by
 unfold zDd at h
 split at h
 ·rename_i xs q
  cases h
  obtain ⟨a,h1,h2,h3⟩:=e.slot i _ q rfl
  exact ⟨a,h1,h2,by simp [fpO,fpF],h3⟩
 ·rename_i xs q
  cases h
  obtain ⟨a,h1,h2,h3⟩:=e.slot i _ q rfl
  exact ⟨a,h1,h2,by simp [fpO,fpF],h3⟩
 ·rename_i c y q
  cases h
  obtain ⟨a,h1,h2,h3⟩:=e.slot i _ q rfl
  exact ⟨a,h1,h2.1.1,h2.1.2,h3⟩
 ·rename_i c y q
  cases h
  obtain ⟨a,h1,h2,h3⟩:=e.slot i _ q rfl
  exact ⟨a,h1,h2.1.1,h2.1.2,h3⟩
 ·cases h
section
variable {X:Cx} {o a e:Expr} {es:List Expr} {pos:Pos} {i:Nat} {f:ROd} {fl:ROl}
def vBin (i:Nat) (f:ROd):ROd:=λρ=>(f ρ).bind λd=>(zDd ρ i).bind λx=>match x with
 |.p (.m kvs)=>(zFs d).map λk=>.bl (zC2 kvs k).isSome
 |_=>none
theorem zT5 (hu:X.A.units+1<cLine) (i:Nat) (ho:PE X o (zBG i)) (ha:SE X a f) (hm:behindInMarks .In o=false:=by rfl):SE X (.Compare a [.In] [o] pos) (vBin i f):=
 zAy (zSz (zPz hu ha ho) hm) λσ H Q=>by
  rintro ⟨G,ρ,d,s,er,ef,k⟩
  obtain ⟨dk,e1,ef⟩:=zUs.mp ef
  obtain ⟨x,e2,ef⟩:=zUs.mp ef
  cases x with
  |ins C fs=>cases ef
  |p y=>
   cases y with
   |m kvs=>
    obtain ⟨key,e3,rfl⟩:=zUt.mp ef
    refine ⟨G,ρ,dk,s,er,e1,λv G' H' t r=>?_⟩
    obtain ⟨a',q1,A⟩:=zJw (er.step t) e2
    obtain ⟨ws,z1,z2⟩:=A.rep
    have ek:=zBv e3 r
    subst ek
    refine ⟨_,q1,a',_,rfl,zDJ.k (k:=key) z1,?_⟩
    rcases z2.get (k:=key) with ⟨y1,y2⟩|⟨d',v',y1,y2,y3⟩
    ·rw [y2];exact k _ G' H' t (by rw [y1];exact yO.mpr rfl)
    ·rw [y2];exact k _ G' H' t (by rw [y1];exact yO.mpr rfl)
   |_=>cases ef
def tAo (K:Fg) (i:Nat) (f:ROl):TA:=λσ H Q=>∃ G ρ ds x,zf G H/\Er K G H ρ σ/\f ρ=some ds/\zDd ρ i=some x/\∀ vs a G' H',zd G H G' H'->Reps K G' ds vs->At K G' H' x a->Q (vs ++ [.ref a]) H'
structure SAo (X:Cx) (es:List Expr) (i:Nat) (f:ROl):Prop where
 pa:PA X es (tAo X.K i f)
 len:∀ ρ ds,f ρ=some ds->ds.length+1=es.length
theorem zRt (i:Nat) (ho:PE X o (zBG i)) (hs:starEach [o] X.env=(false,eval o X.env)::starEach [] X.env:=by rfl):SAo X [o] i zO where
 pa:=zOD (yD ho yy hs) λσ H Q=>by
  rintro ⟨G,ρ,ds,x,s,er,ef,ex,k⟩
  cases ef
  obtain ⟨a,q1,A⟩:=zJw er ex
  exact ⟨_,q1,k [] a G H (zd.refl s) Reps.nil A⟩
 len:=λρ ds h=>by cases h;rfl
def aCo (f:ROd) (g:ROl):ROl:=λρ=>(f ρ).bind λd=>(g ρ).map (d :: ·)
theorem zGi (ha:SE X e f) (hr:SAo X es i fl) (hs:starEach (e::es) X.env=(false,eval e X.env)::starEach es X.env:=by rfl):SAo X (e::es) i (aCo f fl) where
 pa:=zOD (yD ha hr.pa hs) λσ H Q=>by
  rintro ⟨G,ρ,ds,x,s,er,ef,ex,k⟩
  obtain ⟨d,e1,ef⟩:=zUs.mp ef
  obtain ⟨ds',e2,rfl⟩:=zUt.mp ef
  refine ⟨G,ρ,d,s,er,e1,λv G1 H1 t1 r1=>⟨G1,ρ,ds',x,t1.s,er.step t1,e2,ex,λvs a G' H' t r A=>?_⟩⟩
  exact k (v::vs) a G' H' (t1.trans t) (Reps.cons (Rep.mono t.g _ _ r1) r) A
 len:=λρ ds h=>by
  obtain ⟨d,e1,h⟩:=zUs.mp h
  obtain ⟨ds',e2,rfl⟩:=zUt.mp h
  have:=hr.len _ _ e2
  simp only [zUv];omega
end
def spXB (K:Fg) (κ:Nat->Addr) (f:List D->Ob->Option (Except Nat D)) (n:Nat):Sp:=λvs H Q E=>∃ G ds x a ws r,vs=ws ++ [.ref a]/\zf G H/\At K G H x a/\Reps K G ds ws/\ds.length+1=n/\f ds x=some r/\match r with
 |.ok d=>∀ v G' H',zd G H G' H'->Rep K G' d v->Q v H'
 |.error c=>∀ G' H',zd G H G' H'->E (.ref (κ c)) none H'
def zMh (N:List Str) (F:Rho->Option zAp) (a:Addr) (ds:List D) (x:Ob):Option (Except Nat D):=(F ((ds.map Sl.v ++ [.b a x])++List.replicate (N.length-(ds.length+1)) .un)).bind λo=>match o with
 |.o (.rt d)=>some (.ok d)
 |.o (.nx _)=>some (.ok .non)
 |.ex c=>some (.error c)
 |_=>none
theorem zOk {K:Fg} {G H:Hp} {a:Addr} {x:Ob} {ds:List D} {vs:List V} (A:At K G H x a) (r:Reps K G ds vs):Er K G H (ds.map Sl.v ++ [.b a x]) ((vs ++ [V.ref a]).map some):=by
 have hl:=r.length
 have low:∀ {i:Nat} {s:Sl},(ds.map Sl.v ++ [Sl.b a x])[i]?=some s->(∃ d,s = .v d/\ds[i]?=some d)\/(i=ds.length/\s = .b a x):=λ{i s} h=>by
  by_cases hi:i<ds.length
  ·rw [zVP (by simpa using hi),zVc] at h
   cases q:ds[i]? with
   |none=>rw [q] at h;cases h
   |some d=>rw [q] at h;cases h;exact .inl ⟨d,rfl,rfl⟩
  ·rw [zVW (by simpa using hi)] at h
   have hm:=zVF h
   have hlt:=(zU7.mp h).1
   simp only [zU4,zVY] at hlt
   exact .inr ⟨by omega,zUy.mp hm⟩
 refine ⟨by simp [hl],λi d h=>?_,λi s h o=>?_,λi j s t b c ne h1 o1 h2 o2=>?_⟩
 ·rcases low h with ⟨d',z,q⟩|⟨_,z⟩
  ·cases z
   obtain ⟨v,e1,e2⟩:=r.get q
   have hi:i<vs.length:=(zU7.mp e1).1
   exact ⟨v,by rw [zVK,zVP (by simpa using hi),zVc,e1];rfl,e2⟩
  ·cases z
 ·rcases low h with ⟨d',z,q⟩|⟨hi,z⟩
  ·subst z;cases o
  ·subst z
   refine ⟨a,?_,⟨⟨A.rep,A.nd⟩,rfl⟩,A.fr⟩
   rw [hi,hl,zVK,zVW (by simp)]
   simp
 ·rcases low h1 with ⟨d',z,q⟩|⟨hi,z⟩<;>(subst z;cases o1)
section
variable {P:Program} {w:World} {K:Fg} {mg:MGt} {base:Heap} {κ:Nat->Addr}
theorem zRu {x qual:Str} {st:Stmt} {fa:Addr} {fd:FuncData} {N ps:List Str} {k:Nat} {F:Rho->Option zAp} {f:List D->Ob->Option (Except Nat D)}
  (FF:Fun K x qual st fa fd) (S:zV N ps (zI st))
  (hbody:∀ (cdv:Value) (A:Around) (outer:List Env) (s:Shared) (H:Hp) (E:XK),zAB k (A.deeper (envOfC qual (zI st) s.heap.objs.size fa cdv))->SXs (cxE P w K mg base N qual (zI st) fa cdv A outer s H E) κ E (z8 st) F)
  (hf:∀ a ds y r,ds.length+1=ps.length->f ds y=some r->zMh N F a ds y=some r):zCe P w K mg base (CXE P w) (k+1) fa fd ps (spXB K κ f ps.length):=by
 obtain ⟨oc,od,kV,doc,pm,an,cdv,ct,osl,rfl,lk,hcd⟩:=FF.ex
 refine zN4 lk hcd S (λvs H Q E h=>?_) λA outer s H vs Q E hr h=>?_
 ·obtain ⟨G,ds,y,a,ws,d,rfl,_,_,r,hn,_⟩:=h
  rw [zU9,zVY,<- r.length,hn]
 ·obtain ⟨G,ds,y,a,ws,r,rfl,sm,hA,rp,hn,ef,kk⟩:=h
  refine ⟨_,hbody cdv A outer s H E hr,?_⟩
  obtain ⟨o,e1,e2⟩:=zUs.mp (hf a ds y r hn ef)
  have er:=(zOk hA rp).app (N.length-(ds.length+1)) (List.replicate (N.length-(ds.length+1)) none) (by simp)
  have es:L2.zBH N (ws ++ [.ref a])=(ws ++ [V.ref a]).map some++List.replicate (N.length-(ds.length+1)) none:=by rw [zCI,zU9,zVY,<- rp.length]
  rw [es]
  refine ⟨G,H,G,_,o,⟨er,⟨sm,zf.refl _,zf.refl _,λb o e n=>by rw [e] at n;cases n⟩,λi u b h1 h2 h3=>?_⟩,e1,?_⟩
  ·exfalso
   rcases zU2.mp (zVF h1) with q|q
   ·rcases zU2.mp q with q|q
    ·obtain ⟨d',_,rfl⟩:=zVT.mp q;cases h2
    ·rw [zUy.mp q] at h2;cases h2
   ·rw [(zWd.mp q).2] at h2;cases h2
  ·cases o with
   |o x=>
    cases x with
    |rt d'=>
     cases e2
     exact λv G' H' b r'=>kk v G' H' ⟨b.gg,b.hh,b.gh,b.fr⟩ r'
    |nx ρ=>
     cases e2
     exact λσ' G' H' st'=>kk .non G' H' ⟨st'.bs.gg,st'.bs.hh,st'.bs.gh,st'.bs.fr⟩ (qp.mpr rfl)
    |bk ρ=>cases e2
    |ct ρ=>cases e2
    |ro ρ=>cases e2
    |rm d ρ=>cases e2
   |ex c=>
    cases e2
    exact λG' H' b=>kk G' H' ⟨b.gg,b.hh,b.gh,b.fr⟩
end
structure zRv (P:Program) (w:World) (K:Fg) (mg:MGt) (base:Heap) (κ:Nat->Addr) (k:Nat) (x:Str) (n:Nat) (F:List D->Ob->Option (Except Nat D)):Prop where
 ex:∃ f fd ps,zCe P w K mg base (CXE P w) k f fd ps (spXB K κ F n)/\mg x=some (.ref f)/\PySem.W.keepIn K (.ref f)=true/\L2.zAx K fd ps []
section
variable {X:Cx} {κ:Nat->Addr} {W:XK} {e:Expr} {es:List Expr} {fl:ROl} {pos p cpos:Pos} {x y:Str} {k n i:Nat} {f:List D->Ob->Option (Except Nat D)}
def zRw (i:Nat) (fl:ROl) (f:List D->Ob->Option (Except Nat D)):Rho->Option (Except Nat D):=λρ=>(fl ρ).bind λds=>(zDd ρ i).bind λx=>f ds x
theorem zOl (h:zRv X.prog X.w X.K X.mg X.base κ k x n f) (hP:zBb (CXE X.prog X.w) X W) (hr:zAB k X.A) (hg:X.env.kindOf x=some .globalImplicit) (hn:(e::es).length=n) (ha:SAo X (e::es) i fl) (hdb:(x == ("__debug__" : Str))=false:=by decide)
  (he:starEach (e::es) X.env=(false,eval e X.env)::starEach es X.env:=by rfl) (hpl:(backTo pos (starEach es X.env)).any (·.1)=false:=by rfl) :
  PE X (.Call (.Name x p) (e::es) [] pos) (tCx X.K κ W (zRw i fl f)):=by
 obtain ⟨fa,fd,ps,FO,hm,hk,hb⟩:=h.ex
 refine zAy (zEW (E:=W) FO hr hg hm hk hb .nil hP ha.pa hdb he hpl) λσ H Q zz=>?_
 obtain ⟨G,ρ,r,s,er,ef,k⟩:=zz
 obtain ⟨xs,e1,ef⟩:=zUs.mp ef
 obtain ⟨y,e2,e3⟩:=zUs.mp ef
 refine ⟨G,ρ,xs,y,s,er,e1,e2,λvs a G1 H1 t1 r1 A=>?_⟩
 show spXB X.K κ f n ((vs ++ [.ref a]) ++ []) H1 Q W
 rw [zVZ]
 refine ⟨G1,xs,y,a,vs,r,rfl,t1.s,A,r1,by rw [ha.len _ _ e1,hn],e3,?_⟩
 cases r with
 |ok d=>exact λv G' H' t r=>k v G' H' (t1.trans t) r
 |error c=>exact λG' H' t=>k G' H' (t1.trans t)
end
section
variable {X:Cx} {c a b:Expr} {pos:Pos} {p:ROb} {f g:ROd}
def vIf (p:ROb) (f g:ROd):ROd:=λρ=>(p ρ).bind λk=>if k=true then f ρ else g ρ
theorem zOm (hc:SB X c p) (ha:SE X a f) (hb:SE X b g):SE X (.IfExp c a b pos) (vIf p f g):=zAy (zNy hc ha hb) λσ H Q=>by
 rintro ⟨G,ρ,d,s,er,ef,k⟩
 obtain ⟨kk,e1,e2⟩:=zUs.mp ef
 refine ⟨G,ρ,kk,s,er,e1,λG1 H1 t1=>?_⟩
 cases kk with
 |true=>rw [zVE rfl] at e2 ⊢;exact ⟨G1,ρ,d,t1.s,er.step t1,e2,λv G' H' t r=>k v G' H' (t1.trans t) r⟩
 |false=>rw [zVe zVV] at e2 ⊢;exact ⟨G1,ρ,d,t1.s,er.step t1,e2,λv G' H' t r=>k v G' H' (t1.trans t) r⟩
end
theorem zCR {α β:Type} {f g:α->List β}:∀ {l:List α},(∀ x∈l,f x=g x)->l.flatMap f=l.flatMap g
 | [],_=>rfl
 |x::l,h=>by rw [zVX,zVX,h x (zU0 ..),zCR λy m=>h y (zUu _ m)]
section
variable {K:Fg} {G0 H0 G H:Hp} {ρ:Rho} {σ:L2.St} {i:Nat} {a C dx:Addr} {c:Option Addr} {f:Str} {fs:List (Str×Fl)} {ws:List (Str×V)} {fl:Fl} {u:V}
theorem zHu {α:Type} {q:Str×α}:∀ {fs:List (Str×α)},fs.lookup f=none->q∈fs->q.1≠f
 | [],_,m=>by cases m
 |(g,y)::r,h,m=>by
  rw [zVM] at h
  split at h
  ·cases h
  ·rename_i e
   rcases zU1.mp m with z|m
   ·subst z;exact λz=>by subst z;simp at e
   ·exact zHu h m
theorem zEw {α:Type} {x g:Str} {y:α}:∀ {fs:List (Str×α)},(fs ++ [(g,y)]).lookup x=none->fs.lookup x=none/\x≠g
 |[],h=>by
  refine ⟨rfl,λz=>?_⟩
  subst z
  simp at h
 |(k,z)::r,h=>by
  rw [zVy,zVM] at h
  rw [zVM]
  split at h
  ·cases h
  ·exact zEw h
theorem At.addL (h:At K G H (.ins C fs) a) (ha:H a=some (.ins C dx ws)) (hl:fs.lookup f=none) (hr:zLG K G H fl u) (hn:(fpL H fl u).Nodup) (hf:∀ p∈fpL H fl u,p∉fpO H (.ins C fs) a/\G p=none) :
  At K G (upd H a (.ins C dx (zCD f u ws))) (.ins C (fs ++ [(f,fl)])) a/\fpO (upd H a (.ins C dx (zCD f u ws))) (.ins C (fs ++ [(f,fl)])) a=fpO H (.ins C fs) a++fpL H fl u:=by
 obtain ⟨dx',ws',z1,z2,z3,z4⟩:=h.rep
 rw [ha] at z1;cases z1
 have eO:fpO H (.ins C fs) a=a::dx::fpW H fs ws:=by simp only [fpO];rw [ha];rfl
 have hnd:=h.nd
 have fr:=h.fr
 rw [eO] at hnd fr
 have n1:=zVa.mp hnd
 have n2:=zVa.mp n1.2
 have ha':upd H a (.ins C dx (zCD f u ws)) a=some (.ins C dx (zCD f u ws)):=zN
 have hax:dx≠a:=λz=>n1.1 (by rw [z];exact zU0 ..)
 have lk:∀ (q:Str×Fl),q∈fs->(zCD f u ws).lookup q.1=ws.lookup q.1:=λq m=>by rw [zAI,zVe (zHu hl m)]
 have stay:∀ (q:Str×Fl),q∈fs->∃ v,ws.lookup q.1=some v/\zLG K G (upd H a (.ins C dx (zCD f u ws))) q.2 v/\fpL (upd H a (.ins C dx (zCD f u ws))) q.2 v=fpL H q.2 v:=λq m=>by
  obtain ⟨v,r1,r2⟩:=z3 q m
  refine ⟨v,r1,r2.same (zf.refl _) λp mp o zz=>?_⟩
  rw [zJ (λz=>n1.1 (by rw [<- z];exact zUu _ (zDW m r1 mp)))];exact zz
 have nw:=hr.same (zf.refl _) (H':=upd H a (.ins C dx (zCD f u ws))) λp mp o zz=>by
  rw [zJ (λz=>(hf p mp).1 (by rw [eO,z];exact zU0 ..))];exact zz
 have hfl:(zCD f u ws).lookup f=some u:=by rw [zAI,zVE rfl]
 have wO:fpW (upd H a (.ins C dx (zCD f u ws))) fs (zCD f u ws)=fpW H fs ws:=by
  unfold fpW
  refine zCR λq m=>?_
  obtain ⟨v,r1,_,r3⟩:=stay q m
  rw [lk q m,r1];exact r3
 have eN:fpO (upd H a (.ins C dx (zCD f u ws))) (.ins C (fs ++ [(f,fl)])) a=(a::dx::fpW H fs ws)++fpL H fl u:=by
  simp only [fpO];rw [ha'];simp only [inI]
  have:fpW (upd H a (.ins C dx (zCD f u ws))) (fs ++ [(f,fl)]) (zCD f u ws)=fpW H fs ws++fpL H fl u:=by
   rw [<- wO,<- nw.2]
   unfold fpW
   rw [zXO,zVX,List.flatMap_nil,zVZ]
   simp only [hfl]
  rw [this];rfl
 refine ⟨⟨⟨dx,_,ha',by rw [zJ hax];exact z2,λq m=>?_,λx e=>?_,?_⟩,?_,λp m=>?_⟩,by rw [eN,eO]⟩
 ·rcases zU2.mp m with m|m
  ·obtain ⟨v,r1,r2,_⟩:=stay q m
   exact ⟨v,by rw [lk q m];exact r1,r2⟩
  ·cases zUy.mp m
   exact ⟨u,hfl,nw.1⟩
 ·obtain ⟨e1,e2⟩:=zEw e
  rw [zAI,zVe e2]
  exact z4.1 x e1
 ·have:=zCd f u ws
  rw [zU9,zVY]
  have:=z4.2
  omega
 ·rw [eN,zVn]
  refine ⟨hnd,hn,λp m q mq=>?_⟩
  intro z;subst z
  exact (hf p mq).1 (by rw [eO];exact m)
 ·rw [eN] at m
  rcases zU2.mp m with m|m
  ·exact fr p m
  ·exact (hf p m).2
theorem StR.addL (s:StR K G0 H0 G H ρ σ) (hu:ρ[i]?=some (.o c (.ins C fs))) (hσ:σ[i]?=some (some (.ref a))) (ha:H a=some (.ins C dx ws)) (hl:fs.lookup f=none) (hr:zLG K G H fl u) (hn:(fpL H fl u).Nodup)
  (hf:∀ p∈fpL H fl u,G p=none/\H0 p=none/\∀ (j:Nat) (v:Sl) (b:Addr),ρ[j]?=some v->v.isObj=true->σ[j]?=some (some (.ref b))->p∉fpS H v b) :
  StR K G0 H0 G (upd H a (.ins C dx (zCD f u ws))) (ρ.set i (.o c (.ins C (fs ++ [(f,fl)])))) σ:=by
 obtain ⟨a',h1,h2,h3⟩:=s.er.slot i _ hu rfl
 rw [hσ] at h1;cases h1
 have A:At K G H (.ins C fs) a:=⟨h2.1.1,h2.1.2,h3⟩
 obtain ⟨A',eF⟩:=A.addL ha hl hr hn λp m=>⟨(hf p m).2.2 i _ a hu rfl hσ,(hf p m).1⟩
 have hi:i<ρ.length:=(zU7.mp hu).1
 have hG:G a=none:=h3 a (zBJ rfl)
 have oth:∀ {j:Nat} {v:Sl} {b:Addr},j≠i->ρ[j]?=some v->v.isObj=true->σ[j]?=some (some (.ref b))->a∉fpS H v b:=λ{j v b} ne h o q m=>s.er.sep i j _ v a b (Ne.symm ne) hu rfl h o hσ q a (zBJ rfl) m
 have all:∀ {j:Nat} {v:Sl} {b:Addr},j≠i->ρ[j]?=some v->v.isObj=true->σ[j]?=some (some (.ref b))->zJg K G (upd H a (.ins C dx (zCD f u ws))) v b/\fpS (upd H a (.ins C dx (zCD f u ws))) v b=fpS H v b:=λ{j v b} ne h o q=>by
  obtain ⟨b',g1,g2,g3⟩:=s.er.slot j v h o
  rw [q] at g1;cases g1
  exact g2.same (zf.refl _) λp m x z=>by rw [zJ (λy=>oth ne h o q (by rw [<- y];exact m))];exact z
 have eS:fpS (upd H a (.ins C dx (zCD f u ws))) (.o c (.ins C (fs ++ [(f,fl)]))) a=fpS H (.o c (.ins C fs)) a++fpL H fl u:=eF
 refine ⟨⟨by simpa using s.er.len,λj d' h=>?_,λj v h o=>?_,λj k v v' b b' ne h1 o1 h2 o2 q1 q2=>?_⟩,⟨λb x e=>?_,s.bs.gg,λb x e=>?_,s.bs.fr⟩,λj v b h o q=>?_⟩
 ·rcases zu h with ⟨rfl,e,_⟩|⟨hj,h⟩
  ·cases e
  ·exact s.er.val j d' h
 ·rcases zu h with ⟨rfl,e,_⟩|⟨hj,h⟩
  ·subst e;exact ⟨a,hσ,⟨⟨A'.rep,A'.nd⟩,h2.2⟩,A'.fr⟩
  ·obtain ⟨b,g1,_,g3⟩:=s.er.slot j v h o
   have q:=all hj h o g1
   exact ⟨b,g1,q.1,by rw [q.2];exact g3⟩
 ·have new:∀ {k:Nat} {v':Sl} {b' p:Addr},k≠i->ρ[k]?=some v'->v'.isObj=true->σ[k]?=some (some (.ref b'))->p∈fpS H (.o c (.ins C fs)) a++fpL H fl u->p∉fpS H v' b':=λ{k v' b' p} nk h o q m=>by
   rcases zU2.mp m with m|m
   ·exact s.er.sep i k _ v' a b' (Ne.symm nk) hu rfl h o hσ q p m
   ·exact (hf p m).2.2 k v' b' h o q
  rcases zu h1 with ⟨ej,e,_⟩|⟨hj,h1'⟩
  ·subst ej;subst e
   rw [hσ] at q1;cases q1
   rcases zu h2 with ⟨ek,_,_⟩|⟨hk,h2'⟩
   ·exact absurd ek.symm ne
   ·rw [eS,(all hk h2' o2 q2).2]
    exact λp m=>new hk h2' o2 q2 m
  ·rcases zu h2 with ⟨ek,e,_⟩|⟨hk,h2'⟩
   ·subst ek;subst e
    rw [hσ] at q2;cases q2
    rw [eS,(all hj h1' (Sl.obj_of_own o1) q1).2]
    exact λp m z=>new hj h1' (Sl.obj_of_own o1) q1 z m
   ·rw [(all hj h1' (Sl.obj_of_own o1) q1).2,(all hk h2' o2 q2).2]
    exact s.er.sep j k v v' b b' ne h1' o1 h2' o2 q1 q2
 ·rw [zJ (λz=>by rw [z,hG] at e;cases e)];exact s.bs.gh b x e
 ·rw [zJ (λz=>by rw [z,s.ow i _ a hu rfl hσ] at e;cases e)];exact s.bs.hh b x e
 ·rcases zu h with ⟨rfl,e,_⟩|⟨hj,h⟩
  ·subst e
   rw [hσ] at q;cases q
   rw [eS]
   intro p m
   rcases zU2.mp m with m|m
   ·exact s.ows j _ a hu rfl hσ p m
   ·exact (hf p m).2.1
  ·rw [(all hj h (Sl.obj_of_own o) q).2];exact s.ows j v b h o q
end
section
variable {X:Cx} {o value:Expr} {pos pos':Pos} {C:Addr} {f:Str} {fv:ROd} {fl:ROl}
def zC8 (C:Addr) (i:Nat) (f:Str) (x:Fl) (ρ:Rho):Option Out:=match ρ[i]? with
 |some (.o c (.ins C' fs))=>if C'=C/\(fs.lookup f).isNone=true/\fs.length<900 then some (.nx (ρ.set i (.o c (.ins C (fs ++ [(f,x)]))))) else none
 |_=>none
theorem zGj {i:Nat} {x:Fl} {ρ:Rho} {out:Out} (h:zC8 C i f x ρ=some out):∃ c fs,ρ[i]?=some (.o c (.ins C fs))/\fs.lookup f=none/\fs.length<900/\out = .nx (ρ.set i (.o c (.ins C (fs ++ [(f,x)])))):=by
 unfold zC8 at h
 split at h
 ·rename_i c C' fs q
  split at h
  ·rename_i hh
   obtain ⟨rfl,h2,h3⟩:=hh
   cases h
   exact ⟨c,fs,q,by simpa using h2,h3,rfl⟩
  ·cases h
 ·cases h
theorem zJx (i:Nat) (c:Cls X.K C) (n:qH X.K C f) (ho:PE X o (zBG i)) (hv:SF X value fl) (hs:swapsWith value (some (.Attribute o f pos')) pos.line X.env=pure false:=by rfl) :
  SS X (.Assign [.Attribute o f pos'] value pos) (λρ=>(fl ρ).bind λxs=>zC8 C i f (.f (.l xs)) ρ):=
 yY (zLb ho hv hs) λE σ H=>by
  rintro ⟨G0,H0,G,ρ,out,st,ef,k⟩
  obtain ⟨xs,e1,ef⟩:=zUs.mp ef
  obtain ⟨c',fs,hu,hl,hlen,rfl⟩:=zGj ef
  refine ⟨G,ρ,xs,st.bs.gh,st.er,e1,λb vs G' H' t h1 h2 h3 r=>?_⟩
  have st':=st.step t
  obtain ⟨a,q1,q2,q3⟩:=st'.er.slot i _ hu rfl
  obtain ⟨dx,ws,z1,z2,z3,z4,z5⟩:=q2.1.1
  refine ⟨_,q1,a,C,dx,ws,rfl,z1,c,n,by omega,k σ G' _ (st'.addL (fl:=.f (.l xs)) (u:=.ref b) hu q1 z1 hl ⟨b,rfl,vs,h3,r⟩ (by simp [fpL,fpF]) λp m=>?_)⟩
  have:p=b:=by simpa [fpL,fpF] using m
  subst this
  refine ⟨h2,st.bs.hh.free h1,λj v b' hj oj qj m=>?_⟩
  rw [st.er.fp t.h hj oj qj] at m
  obtain ⟨⟨x,e⟩,_⟩:=st.er.there hj oj qj m
  rw [h1] at e;cases e
theorem zOn (i:Nat) (c:Cls X.K C) (n:qH X.K C f) (ho:PE X o (zBG i)) {p1:Pos} (hs:swapsWith (.Dict [] [] p1) (some (.Attribute o f pos')) pos.line X.env=pure false:=by rfl) :
  SS X (.Assign [.Attribute o f pos'] (.Dict [] [] p1) pos) (λρ=>zC8 C i f (.f (.tl [])) ρ):=
 yY (zLb ho zN9 hs) λE σ H=>by
  rintro ⟨G0,H0,G,ρ,out,st,ef,k⟩
  obtain ⟨c',fs,hu,hl,hlen,rfl⟩:=zGj ef
  intro b hb
  have t:zd G H G (upd H b (.dT [])):=zd.newH st.bs.gh hb
  have st':=st.step t
  obtain ⟨a,q1,q2,q3⟩:=st'.er.slot i _ hu rfl
  obtain ⟨dx,ws,z1,z2,z3,z4,z5⟩:=q2.1.1
  have e0:fpL (upd H b (.dT [])) (.f (.tl [])) (.ref b) = [b]:=by simp only [fpL,fpF];rw [zN];rfl
  refine ⟨_,q1,a,C,dx,ws,rfl,z1,c,n,by omega,k σ G _ (st'.addL (fl:=.f (.tl [])) (u:=.ref b) hu q1 z1 hl ⟨b,rfl,[],zN,rfl,rfl⟩ (by rw [e0];simp) λp m=>?_)⟩
  rw [e0] at m
  have:p=b:=by simpa using m
  subst this
  refine ⟨st.bs.gh.free hb,st.bs.hh.free hb,λj v b' hj oj qj m=>?_⟩
  rw [st.er.fp t.h hj oj qj] at m
  obtain ⟨⟨x,e⟩,_⟩:=st.er.there hj oj qj m
  rw [hb] at e;cases e
end
section
variable {X:Cx} {o:Expr} {es:List Expr} {pos p pos':Pos} {fl:ROl} {k n i:Nat} {F:Ob->List D->Option D} {F':Ob->List D->Option Ob} {x:Str}
end
section
variable {X:Cx} {κ:Nat->Addr} {e o:Expr} {es:List Expr} {pos p cpos pos':Pos} {fl:ROl} {k n i:Nat} {f:List D->Option (Except Nat D)} {x y:Str} {C fa:Addr} {F:Ob->List D->Option Ob}
end
section
variable {X:Cx} {e:Expr} {pos:Pos} {f:ROd}
def zRx (f:ROd):ROo:=λρ=>(f ρ).map λd=>.rm d ρ
theorem zMi (he:SE X e f):SS X (.Return (some e) pos) (zRx f):=yY (zFh he) λQ σ H=>by
 rintro ⟨G0,H0,G,ρ,o,st,ef,k⟩
 obtain ⟨d,e1,rfl⟩:=zUt.mp ef
 exact ⟨G,ρ,d,st.bs.gh,st.er,e1,λv G' H' t r=>k v σ G' H' (st.step t) r⟩
end
def spMV (K:Fg) (f:Ob->List D->Option (D×Ob)) (n:Nat):Sp:=λvs H Q _=>∃ G x a ds ws r,vs = .ref a::ws/\zf G H/\At K G H x a/\Reps K G ds ws/\ds.length+1=n/\f x ds=some r/\∀ v G' H',Chg K G H G' H' x r.2 a->Rep K G' r.1 v->Q v H'
def zRy (a:Addr):Out->Option (D×Ob)
 |.rm d ρ=>(zA3 a ρ).map λy=>(d,y)
 |.nx ρ=>(zA3 a ρ).map λy=>(.non,y)
 |_=>none
def zT6 (N:List Str) (F:ROo) (a:Addr) (x:Ob) (ds:List D):Option (D×Ob):=(F ((.o (some a) x::ds.map Sl.v)++List.replicate (N.length-(ds.length+1)) .un)).bind (zRy a)
theorem zRz {P:Program} {w:World} {K:Fg} {mg:MGt} {base:Heap} {x qual:Str} {st:Stmt} {fa:Addr} {fd:FuncData} {N ps:List Str} {k:Nat} {F:ROo} {f:Ob->List D->Option (D×Ob)}
  (FF:Fun K x qual st fa fd) (S:zV N ps (zI st))
  (hbody:∀ (cdv:Value) (A:Around) (outer:List Env) (s:Shared) (H:Hp),zAB k (A.deeper (envOfC qual (zI st) s.heap.objs.size fa cdv))->SSs (zFS CX0 P w K mg base N qual (zI st) fa cdv A outer s H E0).nox (z8 st) F)
  (hf:∀ a y ds r,ds.length+1=ps.length->f y ds=some r->zT6 N F a y ds=some r):zCe P w K mg base CX0 (k+1) fa fd ps (spMV K f ps.length):=by
 refine FF.ok S (λvs H Q E h=>?_) (λcdv A outer s H vs Q E hr h=>?_)
 ·obtain ⟨G,y,a,ds,ws,y',rfl,_,_,r,hn,_⟩:=h
  rw [zUv,<- r.length,hn]
 ·obtain ⟨G,y,a,ds,ws,⟨d0,y'⟩,rfl,sm,hA,r,hn,ef,kk⟩:=h
  have h1:SSs (zFS CX0 P w K mg base N qual (zI st) fa cdv A outer s H E).nox (z8 st) F:=hbody cdv A outer s H hr
  refine ⟨_,h1,?_⟩
  obtain ⟨o,e1,e2⟩:=zUs.mp (hf a y ds _ hn ef)
  have er0:Er K G H (.o (some a) y::ds.map Sl.v) ((V.ref a::ws).map some):=zEr rfl ⟨⟨hA.rep,hA.nd⟩,λc' e=>by cases e;rfl⟩ hA.fr r
  have er:=er0.app (N.length-(ds.length+1)) (List.replicate (N.length-(ds.length+1)) none) (by simp)
  have es:L2.zBH N (.ref a::ws)=(V.ref a::ws).map some++List.replicate (N.length-(ds.length+1)) none:=by rw [zCI,zUv,<- r.length]
  have hσ:((V.ref a::ws).map some++List.replicate (N.length-(ds.length+1)) none)[0]?=some (some (.ref a)):=by simp
  have no:=λb=>zCl (H:=H) (x:=y) (ds:=ds) (m:=N.length-(ds.length+1)) (b:=b) hσ
  rw [es]
  refine ⟨G,qM H _ _,G,_,o,er.toSt sm,e1,?_⟩
  have fin:∀ {ρ:Rho} {σ':L2.St} {G' H':Hp},zA3 a ρ=some y'->StR K G (qM H ((Sl.o (some a) y::ds.map Sl.v)++List.replicate (N.length-(ds.length+1)) Sl.un) ((V.ref a::ws).map some++List.replicate (N.length-(ds.length+1)) none)) G' H' ρ σ'->Chg K G H G' H' y y' a:=λ{ρ σ' G' H'} e2 st'=>by
   unfold zA3 at e2
   split at e2
   ·rename_i c y1 q0
    split at e2
    ·rename_i hc
     cases e2
     subst hc
     obtain ⟨a',g1,g2,g3⟩:=st'.er.slot 0 _ q0 rfl
     have:a'=a:=g2.2 a rfl
     subst this
     refine ⟨st'.bs.gg,st'.bs.gh,λb o e n=>?_,λb o e n=>st'.bs.hh b o (by rw [(no b).2 n];exact e),⟨g2.1.1,g2.1.2,g3⟩,λc m=>?_⟩
     ·have z:=st'.bs.fr b o e n
      by_cases hb:b∈fpO H y a'
      ·exact .inr hb
      ·rw [(no b).2 hb] at z;exact .inl z
     ·have z:=st'.ows 0 _ a' q0 rfl g1 c m
      by_cases hb:c∈fpO H y a'
      ·exact .inl hb
      ·rw [(no c).2 hb] at z;exact .inr z
    ·cases e2
   ·cases e2
  cases o with
  |nx ρ=>
   obtain ⟨y2,e3,e4⟩:=zUt.mp e2
   cases e4
   exact λσ' G' H' st'=>kk .non G' H' (fin e3 st') (qp.mpr rfl)
  |rm d ρ=>
   obtain ⟨y2,e3,e4⟩:=zUt.mp e2
   cases e4
   exact λv σ' G' H' st' r'=>kk v G' H' (fin e3 st') r'
  |rt d=>cases e2
  |bk ρ=>cases e2
  |ct ρ=>cases e2
  |ro ρ=>cases e2
structure zR0 (P:Program) (w:World) (K:Fg) (mg:MGt) (base:Heap) (k:Nat) (x:Str) (n:Nat) (F:Ob->List D->Option (D×Ob)):Prop where
 ex:∃ f fd ps,zCe P w K mg base CX0 k f fd ps (spMV K F n)/\mg x=some (.ref f)/\PySem.W.keepIn K (.ref f)=true/\L2.zAx K fd ps []
section
variable {X:Cx} {o:Expr} {es:List Expr} {pos p pos' cpos:Pos} {fl:ROl} {k n i:Nat} {F:Ob->List D->Option (D×Ob)} {x y:Str}
end
section
variable {X:Cx} {e:Expr} {pos:Pos} {fl:ROl}
def zHv (fl:ROl):ROo:=λρ=>(fl ρ).map λxs=>.ro (.l xs)
theorem zIn (he:SF X e fl):SS X (.Return (some e) pos) (zHv fl):=yY (zFh he) λQ σ H=>by
 rintro ⟨G0,H0,G,ρ,o,st,ef,k⟩
 obtain ⟨xs,e1,rfl⟩:=zUt.mp ef
 exact ⟨G,ρ,xs,st.bs.gh,st.er,e1,λa vs G' H' t h1 h2 h3 r=>k a G' H' (st.bs.step t) ⟨vs,h3,r⟩ λc m=>by
  cases zUy.mp m;exact ⟨h2,st.bs.hh.free h1⟩⟩
end
def spBL (K:Fg) (f:Ob->List D->Option (List D)) (n:Nat):Sp:=λvs H Q _=>∃ G x a ds ws xs,vs = .ref a::ws/\zf G H/\At K G H x a/\Reps K G ds ws/\ds.length+1=n/\f x ds=some xs /\
 ∀ b us G' H',zd G H G' H'->H b=none->G' b=none->H' b=some (.lst us)->Reps K G' xs us->Q (.ref b) H'
def zKs:Out->Option (List D)
 |.ro (.l xs)=>some xs
 |_=>none
def zT7 (N:List Str) (F:ROo) (a:Addr) (x:Ob) (ds:List D):Option (List D):=(F ((.b a x::ds.map Sl.v)++List.replicate (N.length-(ds.length+1)) .un)).bind zKs
theorem zR1 {P:Program} {w:World} {K:Fg} {mg:MGt} {base:Heap} {x qual:Str} {st:Stmt} {fa:Addr} {fd:FuncData} {N ps:List Str} {k:Nat} {F:ROo} {f:Ob->List D->Option (List D)}
  (FF:Fun K x qual st fa fd) (S:zV N ps (zI st))
  (hbody:∀ (cdv:Value) (A:Around) (outer:List Env) (s:Shared) (H:Hp),zAB k (A.deeper (envOfC qual (zI st) s.heap.objs.size fa cdv))->SSs (zFS CX0 P w K mg base N qual (zI st) fa cdv A outer s H E0).nox (z8 st) F)
  (hf:∀ a y ds d,ds.length+1=ps.length->f y ds=some d->zT7 N F a y ds=some d):zCe P w K mg base CX0 (k+1) fa fd ps (spBL K f ps.length):=by
 refine FF.ok S (λvs H Q E h=>?_) (λcdv A outer s H vs Q E hr h=>?_)
 ·obtain ⟨G,y,a,ds,ws,d,rfl,_,_,r,hn,_⟩:=h
  rw [zUv,<- r.length,hn]
 ·obtain ⟨G,y,a,ds,ws,d,rfl,sm,hA,r,hn,ef,kk⟩:=h
  have h1:SSs (zFS CX0 P w K mg base N qual (zI st) fa cdv A outer s H E).nox (z8 st) F:=hbody cdv A outer s H hr
  refine ⟨_,h1,?_⟩
  obtain ⟨o,e1,e2⟩:=zUs.mp (hf a y ds d hn ef)
  have er0:Er K G H (.b a y::ds.map Sl.v) ((V.ref a::ws).map some):=zEr rfl ⟨⟨hA.rep,hA.nd⟩,rfl⟩ hA.fr r
  have er:=er0.app (N.length-(ds.length+1)) (List.replicate (N.length-(ds.length+1)) none) (by simp)
  have er:Er K G H ((.b a y::ds.map Sl.v)++List.replicate (N.length-(ds.length+1)) .un) (L2.zBH N (.ref a::ws)):=by
   rw [zCI,zUv,<- r.length];exact er
  have noown:∀ (i:Nat) (u:Sl),((.b a y::ds.map Sl.v)++List.replicate (N.length-(ds.length+1)) Sl.un)[i]?=some u->u.isOwn=true->False:=λi u h1 h2=>by
   have hm:=zVF h1
   rcases zU2.mp hm with m|m
   ·rcases zU1.mp m with z|m
    ·subst z;cases h2
    ·obtain ⟨d',_,rfl⟩:=zVT.mp m;cases h2
   ·rw [(zWd.mp m).2] at h2;cases h2
  refine ⟨G,H,G,_,o,⟨er,⟨sm,zf.refl _,zf.refl _,λb o e n=>by rw [e] at n;cases n⟩,λi u b h1 h2 h3=>(noown i u h1 h2).elim⟩,e1,?_⟩
  cases o with
  |ro s'=>
   cases s' with
   |l xs=>
    cases e2
    exact λb G' H' bs r' n=>let ⟨us,q1,q2⟩:=r';kk b us G' H' ⟨bs.gg,bs.hh,bs.gh,bs.fr⟩ (n b (zUy.mpr rfl)).2 (n b (zUy.mpr rfl)).1 q1 q2
   |_=>cases e2
  |rt d'=>cases e2
  |nx ρ=>cases e2
  |bk ρ=>cases e2
  |ct ρ=>cases e2
  |rm d ρ=>cases e2
structure zR2 (P:Program) (w:World) (K:Fg) (mg:MGt) (base:Heap) (C:Addr) (k:Nat) (m:Str) (n:Nat) (F:Ob->List D->Option (List D)):Prop where
 ex:∃ f fd ps,zCe P w K mg base CX0 k f fd ps (spBL K F n)/\zQv K C m f/\L2.zAx K fd ps []
def zJy (C:Addr) (m:Str) (i:Nat) (fl:ROl) (F:Ob->List D->Option (List D)):ROl:=λρ=>(zDc ρ i).bind λx=>if zBj C m x=true then (fl ρ).bind λds=>F x ds else none
section
variable {X:Cx} {o e:Expr} {es:List Expr} {pos apos:Pos} {C:Addr} {m:Str} {i k n:Nat} {F:Ob->List D->Option (List D)} {fl:ROl}
theorem zR3 {pl:Sem Bool} (i:Nat) (h:zR2 X.prog X.w X.K X.mg X.base C k m n F) (c:Cls X.K C) (hr:zAB k X.A) (ho:PE X o (zBG i)) (ha:SA X (e::es) fl) (hn:(e::es).length+1=n)
  (hst:starEach (e::es) X.env=(false,eval e X.env)::starEach es X.env:=by rfl) (hpl:(backTo pos (starEach es X.env)).any (·.1)=false:=by rfl)
  (ht:eval (.Call (.Attribute o m apos) (e::es) [] pos) X.env=(do
   let ov <- eval o X.env
   standAt apos.atName
   let (f,first) <- holding [ov] (getMethod ov m pl)
   callWith pos f first (backTo pos (starEach (e::es) X.env)) (backToKw pos (keywordEach [] X.env))):=by rfl) :
  SF X (.Call (.Attribute o m apos) (e::es) [] pos) (zJy C m i fl F):=by
 obtain ⟨f,fd,ps,FO,hm,hb⟩:=h.ex
 refine zAy (zIY (pl:=pl) (dvs:=[]) (ds:=[]) (E:=E0) ho c hm FO hr hb .nil zIb ha.pa hst hpl ht) λσ H Q zz=>?_
 obtain ⟨G,ρ,d,s,er,ef,kk⟩:=zz
 obtain ⟨x,e1,ef⟩:=zUs.mp ef
 split at ef
 ·rename_i hx
  obtain ⟨ds,e2,e3⟩:=zUs.mp ef
  obtain ⟨a,q1,A⟩:=zCH er e1
  obtain ⟨dx,ws,q2,q3⟩:=zJs A hx
  refine ⟨_,q1,a,dx,ws,rfl,q2,q3,G,ρ,ds,s,er,e2,λvs G' H' t r=>?_⟩
  show spBL X.K F n (V.ref a::(vs ++ [])) H' Q E0
  rw [zVZ]
  exact ⟨G',x,a,ds,vs,d,rfl,t.s,A.step t,r,by rw [ha.len _ _ e2];exact hn,e3,λb us G2 H2 t2 h1 h2 h3 r2=>kk b us G2 H2 (t.trans t2) (t.h.free h1) h2 h3 r2⟩
 ·cases ef
end
section
variable {X:Cx} {o:Expr} {es:List Expr} {pos p np cpos:Pos} {fl:ROl} {k n:Nat} {F:Ob->List D->Option (D×Ob)} {x:Str} {A B:List Stmt} {FA FB:ROo}
def zC9 (i:Nat) (fl:ROl) (F:Ob->List D->Option (D×Ob)) (FA FB:ROo):ROo:=λρ=>match ρ[i]? with
 |some (.o c y)=>(fl ρ).bind λds=>(F y ds).bind λr=>match r.1 with
  |.bl b=>if b=true then FB (ρ.set i (.o c r.2)) else FA (ρ.set i (.o c r.2))
  |_=>none
 |_=>none
theorem zKt (i:Nat) (h:zR0 X.prog X.w X.K X.mg X.base k x n F) (hr:zAB k X.A) (hg:X.env.kindOf x=some .globalImplicit) (hn:(o::es).length=n) (ho:PE X o (zBG i)) (ha:SA X es fl) (hA:SSs X A FA) (hB:SSs X B FB) (hdb:(x == ("__debug__" : Str))=false:=by decide)
  (he:starEach (o::es) X.env=(false,eval o X.env)::starEach es X.env:=by rfl) (hpl:(backTo cpos (starEach es X.env)).any (·.1)=false:=by rfl)
  (ht:∀ whole,isTrue (.Call (.Name x p) (o::es) [] cpos) X.env whole=(do let v <- whole;standAt (Expr.Call (.Name x p) (o::es) [] cpos).pos;holding [v] (truthy v)):=by intro _;rfl) :
  SS X (.If (.UnaryOp .Not (.Call (.Name x p) (o::es) [] cpos) np) A B pos) (zC9 i fl F FA FB):=by
 obtain ⟨f,fd,ps,FO,hm,hk,hb⟩:=h.ex
 refine yY (zQl (zPu (zJZ (zEW (E:=E0) FO hr hg hm hk hb .nil zIb (yD ho ha.pa he) hdb he hpl) ht)) hA hB) λE σ H zz=>?_
 obtain ⟨G0,H0,G,ρ,out,st,ef,kk⟩:=zz
 unfold zC9 at ef
 split at ef
 ·rename_i c' z q0
  obtain ⟨ds,e2,ef⟩:=zUs.mp ef
  obtain ⟨⟨d0,z'⟩,e3,ef⟩:=zUs.mp ef
  obtain ⟨a,q1,r1,r2⟩:=st.er.slot i _ q0 rfl
  have hAt:At X.K G H z a:=⟨r1.1.1,r1.1.2,r2⟩
  refine ⟨_,q1,G,ρ,ds,st.bs.gh,st.er,e2,λvs G1 H1 t r=>?_⟩
  show spMV X.K F n ((V.ref a::vs) ++ []) H1 _ E0
  rw [zVZ]
  refine ⟨G1,z,a,ds,vs,(d0,z'),rfl,t.s,hAt.step t,r,by rw [ha.len _ _ e2];exact hn,e3,λv G2 H2 ch rv=>?_⟩
  have st':=st.step t
  have st2:=st'.mutG q0 rfl (w:=.o c' z') rfl q1 ch.g ch.gh ch.fr ch.h ⟨⟨ch.at_.rep,ch.at_.nd⟩,r1.2⟩ λp mm=>⟨ch.new p mm,ch.at_.fr p mm⟩
  cases d0 with
  |bl b=>
   have ev:=yO.mp rv
   subst ev
   refine ⟨b,rfl,?_⟩
   simp only at ef
   cases b with
   |true=>rw [zVE rfl] at ef;exact ⟨G0,H0,G2,_,out,st2,ef,kk⟩
   |false=>rw [zVe zVV] at ef;exact ⟨G0,H0,G2,_,out,st2,ef,kk⟩
  |_=>cases ef
 ·cases ef
end
def zIo {α:Type} (f:Addr->Option α):Option α:=by
 classical exact if h:∃ r,∀ a,f a=some r then some h.choose else none
theorem qQ {α:Type} {f:Addr->Option α} {r:α} (h:∀ a,f a=some r):zIo f=some r:=by
 have e:∃ r,∀ a,f a=some r:=⟨r,h⟩
 unfold zIo
 rw [dif_pos e]
 have:=e.choose_spec 0
 rw [h 0] at this
 exact this.symm
theorem qR {α:Type} {f:Addr->Option α} {r:α} (h:zIo f=some r):∀ a,f a=some r:=by
 unfold zIo at h
 split at h
 ·rename_i e;cases h;exact e.choose_spec
 ·cases h
def isN (i:Nat):ROb:=λρ=>match ρ[i]? with
 |some (.v .non)=>some true
 |some (.o _ _)=>some false
 |_=>none
def zMj (i:Nat):ROo:=λρ=>match ρ[i]? with
 |some (.v d)=>some (.rt d)
 |some (.o c x)=>some (.ro (.o c x))
 |_=>none
def zT8 (N:List Str) (F:Rho->Option zAp) (a:Addr) (x:Ob) (ds:List D):Option (Except Nat Ob):=(F ((.o (some a) x::ds.map Sl.v)++List.replicate (N.length-(ds.length+1)) .un)).bind λo=>match o with
 |.o (.nx ρ)=>(zA3 a ρ).map .ok
 |.ex c=>some (.error c)
 |_=>none
def zF1 (C:Addr) (i:Nat) (fl:ROl) (F:Ob->List D->Option (Except Nat Ob)) (cc:Nat) (Fh:ROo):ROo:=λρ=>(fl ρ).bind λds=>(F (.ins C []) ds).bind λr=>match r with
 |.ok x=>some (.nx (ρ.set i (.o none x)))
 |.error c=>if c=cc then Fh ρ else none
def zKu (g:D->Rho->Option Rho) (f:Rho->Option (Except Nat D)):List D->Rho->Option (Except Nat (List D))
 | [],_=>some (.ok [])
 |d::ds,ρ=>(g d ρ).bind λρ1=>(f ρ1).bind λr=>match r with
  |.ok y=>(zKu g f ds ρ).map λq=>match q with
   |.ok ys=>.ok (y::ys)
   |.error c=>.error c
  |.error c=>some (.error c)
def zF2 (m:Nat) (fl:ROl) (g:D->Rho->Option Rho) (f:Rho->Option (Except Nat D)):Rho->Option (Except Nat (List D)):=λρ=>(fl ρ).bind λds=>if ds.length<=1000000 then zKu g f ds (ρ++List.replicate m .un) else none
def zHw (C:Addr) (i:Nat) (f:Str) (q:Rho->Option (Except Nat (List D))):Rho->Option zAp:=λρ=>(q ρ).bind λr=>match r with
 |.ok xs=>(zC8 C i f (.v (.lst xs)) ρ).map .o
 |.error c=>some (.ex c)
section
variable {X:Cx} {e o:Expr} {pos:Pos} {st:Stmt}
theorem zOo:SS X st (λ_=>none):=yY zNz λE σ H=>by rintro ⟨_,_,_,_,_,_,ef,_⟩;cases ef
theorem zT9 (i:Nat) {j} {np:Pos} (ho:PE X o (zBG i)) (hm:behindInMarks .Is (.Constant .none j np)=false:=by rfl):SB X (.Compare o [.Is] [.Constant .none j np] pos) (isN i):=
 zHX (zGO zTG ho zLx hm) λσ H Q=>by
  rintro ⟨G,ρ,b,s,er,ef,k⟩
  unfold isN at ef
  split at ef
  ·rename_i q
   cases ef
   obtain ⟨v,q1,q2⟩:=er.val i .non q
   have q2:=qp.mp q2
   subst q2
   exact ⟨_,q1,G,ρ,.non,s,er,rfl,λv G' H' t r=>⟨qp.mp r,true,by simp,k G' H' t⟩⟩
  ·rename_i c x q
   cases ef
   obtain ⟨a,q1,_⟩:=er.slot i _ q rfl
   exact ⟨_,q1,G,ρ,.non,s,er,rfl,λv G' H' t r=>⟨qp.mp r,false,by simp,k G' H' t⟩⟩
  ·cases ef
theorem zOp (i:Nat) (he:PE X e (zBG i)):SS X (.Return (some e) pos) (zMj i):=yY (zFh he) λQ σ H=>by
 rintro ⟨G0,H0,G,ρ,o,st,ef,k⟩
 unfold zMj at ef
 split at ef
 ·rename_i d q
  cases ef
  obtain ⟨v,q1,q2⟩:=st.er.val i d q
  exact ⟨v,q1,k v G H st.bs q2⟩
 ·rename_i c x q
  cases ef
  obtain ⟨a,q1,q2,q3⟩:=st.er.slot i _ q rfl
  exact ⟨_,q1,k a G H st.bs q2 λc m=>⟨q3 c m,st.ows i _ a q rfl q1 c m⟩⟩
 ·cases ef
end
section
variable {P:Program} {w:World} {K:Fg} {mg:MGt} {base:Heap} {N:List Str} {qual:Str} {scope:Scope} {f:Addr} {cd:Value} {A:Around} {outer:List Env} {s₀:Shared} {H₀:Hp} {E:XK}
theorem zF3:PassesOwn (model (cxE P w K mg base N qual scope f cd A outer s₀ H₀ E).prog (cxE P w K mg base N qual scope f cd A outer s₀ H₀ E).w) (cxE P w K mg base N qual scope f cd A outer s₀ H₀ E).A (cxE P w K mg base N qual scope f cd A outer s₀ H₀ E).env (cxE P w K mg base N qual scope f cd A outer s₀ H₀ E).xe:=PassesOwn.leaving
end
theorem zFZ {e:Value} {env env':Env} (h:env.frame=env'.frame):noteFrame e env=noteFrame e env':=by
 unfold noteFrame PySem.frameOf;rw [h]
section
variable {M:Model} {A:Around} {E:VSt} {s:Shared} {bs:Heap} {env:Env} {outer:List Env} {L e:Addr} {cls a0 fl:Value}
structure zOq (bs:Heap) (l:List Env) (e:Addr) (cls a0 fl:Value) (h:Heap):Prop where
 st:bs.StaysIn h
 no:bs.get? e=none
 ff:h.FunFrames bs l
 tr:h.TracedAtW bs e cls a0 fl
theorem zOq.mark {l:List Env} {h:Heap} (x:zOq bs l e cls a0 fl h):∃ oe vs T oT ts,h.get? e=some oe/\(oe.cls=cls/\vs[0]?=some a0)/\oe.data = .fields vs/\vs[1]?=some (.ref T)/\T≠e/\h.get? T=some oT/\oT.data = .fields ts/\3<ts.size/\ts[3]?=some fl /\
  ∀ u,zOq bs l e cls a0 u (h.update T (Obj.mapFields (·.setIfInBounds 3 u)))/\∀ b o,h.get? b=some o->(∀ q,o.data≠.fields q)->(h.update T (Obj.mapFields (·.setIfInBounds 3 u))).get? b=some o:=by
 obtain ⟨oe,vs,T,oT,ts,g1,g2,g3,g4,g5,g6,g7,g8,g9⟩:=x.tr
 have sz:3<ts.size:=(Array.getElem?_eq_some_iff.mp g9).1
 refine ⟨oe,vs,T,oT,ts,g1,g2,g3,g4,g6,g7,g8,sz,g9,λu=>?_⟩
 have oth:∀ b,b≠T->(h.update T (Obj.mapFields (·.setIfInBounds 3 u))).get? b=h.get? b:=λb nb=>zWc _ _ λz=>nb z.symm
 have nT:∀ b o,h.get? b=some o->(∀ q,o.data≠.fields q)->b≠T:=λb o e n z=>by
  subst z;rw [g7] at e;cases e;exact n _ g8
 refine ⟨⟨λb o e=>?_,x.no,x.ff.of_keeps λb o e n=>⟨o,by rw [oth b (nT b o e n)];exact e,rfl⟩,oe,vs,T,_,_,?_,g2,g3,g4,g5,g6,zXA _ g7 (Obj.isFreed_of_fields (Obj.data_mapFields g8 _)),Obj.data_mapFields g8 _,by simp [sz]⟩,λb o e n=>by rw [oth b (nT b o e n)];exact e⟩
 ·rw [oth b λz=>by subst z;rw [g5] at e;cases e];exact x.st b o e
 ·rw [oth e λz=>g6 z.symm];exact g1
theorem zIp {l:Env} {h:Heap} (x:h.FunFrames bs (l::outer)):h.FunFrames bs outer:=by
 obtain ⟨_,_,k⟩:=x;exact k
theorem zEx {h h':Heap}:∀ {l:List Env},(∀ b o,b∈frs l->h.get? b=some o->h'.get? b=some o)->h.FunFrames bs l->h'.FunFrames bs l
 | [],_,_=>trivial
 |v::l,k,x=>by
  obtain ⟨x1,⟨Lv,o,y1,y2,y3,y4⟩,x3⟩:=x
  exact ⟨x1,⟨Lv,o,y1,y2,k Lv o (zVR.mpr ⟨v,zU0 ..,y1⟩) y3,y4⟩,zEx (λb o m=>k b o (by
   obtain ⟨u,hu,hf⟩:=zVR.mp m
   exact zVR.mpr ⟨u,zUu _ hu,hf⟩)) x3⟩
theorem zMk (hfr:A.frames=some (env::outer)) (hf:env.frame=some L) (x:zOq bs (env::outer) e cls a0 fl s.heap) {Q:Unit->Shared->Prop}
  (hQ:∀ h',Heap.FlyingW bs outer e cls a0 h'->s.heap.UpToSlots h'->Q () { s with heap:=h' }):wpAny M A (leaving env (.ref e)) Q E s:=by
 have land:∀ (h1:Heap) (f1:Value),zOq bs (env::outer) e cls a0 f1 h1->s.heap.UpToSlots h1->wpAny M A (setFlight (.ref e) none) Q E { s with heap:=h1 }:=λh1 f1 y up=>
  wpAny_setFlight_noneW (s:={ s with heap:=h1 }) y.st y.ff y.tr λh' k1 k2 k3 k4=>hQ h' ⟨k1,y.no,zIp k2,k3⟩ (up.trans λb o z n=>⟨o.slots,k4 b o z n⟩)
 obtain ⟨oe,vs,T,oT,ts,g1,g2,g3,g4,g6,g7,g8,sz,g9,mk⟩:=x.mark
 unfold leaving
 refine zUz ?_
 unfold noteFrame
 simp only [hf]
 refine zUz (zW7 g1 g3 g4 ?_)
 rw [zVE (by simp)]
 refine zUz (zW7 g7 g8 g9 ?_)
 by_cases c:(fl == rawInt L)=true
 ·rw [zVE c]
  exact zU6 (land s.heap fl x (Heap.UpToSlots.refl _))
 ·rw [zVe c]
  obtain ⟨y,keep⟩:=mk .none
  refine zUz (wpAny_setField g7 g8 sz ?_)
  have ge:(s.heap.update T (Obj.mapFields (·.setIfInBounds 3 .none))).get? e=some oe:=by rw [zWc _ _ g6];exact g1
  refine wpAny_entryW (s:={ s with heap:=s.heap.update T (Obj.mapFields (·.setIfInBounds 3 .none)) }) hfr y.ff hf ge y.st y.no g3 (Array.getElem?_eq_some_iff.mp g4).1 g2.2 λh' nt=>?_
  obtain ⟨n1,n2,n3,n4⟩:=nt
  rw [g2.1] at n3
  exact land h' _ ⟨n1,y.no,n2,n3⟩ λb o z n=>n4 b o (keep b o z n) n
theorem zOr {α:Type} {what:String} {cenv:Env} {l:List Env} (x:zOq bs l e cls a0 fl s.heap) {Q:α->Shared->Prop}
  (hE:∀ h' fl',zOq bs l e cls a0 fl' h'->(∀ b o,s.heap.get? b=some o->(∀ q,o.data≠.fields q)->h'.get? b=some o)->E (.ref e) { s with heap:=h' }):wpAny M A (PySem.passOn what (.ref e) cenv:Sem α) Q E s:=by
 obtain ⟨oe,vs,T,oT,ts,g1,g2,g3,g4,g6,g7,g8,sz,g9,mk⟩:=x.mark
 unfold PySem.passOn
 refine zUz (zW7 g1 g3 g4 ?_)
 rw [zVe (by simp)]
 refine zUz ?_
 unfold setFlight
 refine zUz (zW7 g1 g3 g4 ?_)
 rw [zVE (by simp)]
 refine wpAny_setField g7 g8 sz (wpAny_throw ?_)
 obtain ⟨y,keep⟩:=mk (cenv.frame.elim .none λf=>rawInt f)
 exact hE _ _ y keep
end
def zCS (g:D->Rho->Option Rho) (p:ROb) (f:Rho->Option (Except Nat D)):List D->Rho->Option (Except Nat (List D))
 | [],_=>some (.ok [])
 |d::ds,ρ=>(g d ρ).bind λρ1=>(p ρ1).bind λb=>if b=true then (f ρ1).bind λr=>match r with
   |.ok y=>(zCS g p f ds ρ).map λq=>match q with
    |.ok ys=>.ok (y::ys)
    |.error c=>.error c
   |.error c=>some (.error c)
  else zCS g p f ds ρ
theorem zJz {g:D->Rho->Option Rho} {f:Rho->Option (Except Nat D)} {ρ:Rho}:∀ ds:List D,zCS g (λ_=>some true) f ds ρ=zKu g f ds ρ
 | []=>rfl
 |d::ds=>by
  rw [zCS,zKu,zJz ds]
  rfl
theorem zGk {g:D->Rho->Option Rho} {p:ROb} {f:ROd} {ρ:Rho}:∀ {ds ys:List D},zP g p f ds ρ=some ys->zCS g p (λρ=>(f ρ).map .ok) ds ρ=some (.ok ys)
 | [],_,h=>by cases h;rfl
 |d::ds,ys,h=>by
  obtain ⟨ρ1,e1,h⟩:=zUs.mp h
  obtain ⟨b,e2,h⟩:=zUs.mp h
  rw [zCS,e1,zUw,e2,zUw]
  cases b with
  |false=>rw [zVe zVV] at h ⊢;exact zGk h
  |true=>
   rw [zVE rfl] at h ⊢
   obtain ⟨x,e3,h⟩:=zUs.mp h
   obtain ⟨zs,e4,rfl⟩:=zUt.mp h
   rw [e3,zVG,zUw]
   simp only [zGk e4,zVG]
def zUA (zs:List D):Except Nat (List D)->Except Nat (List D)
 |.ok ys=>.ok (zs++ys)
 |.error c=>.error c
section
variable {X:Cx} {tg iter elt:Expr} {scope:Scope} {pos:Pos} {nm:List Str} {fl:ROl} {gd:D->Rho->Option Rho} {f:Rho->Option (Except Nat D)} {κ:Nat->Addr} {W:XK}
theorem zF4 {ifs:List Expr} {p:ROb} {pins:PNt} {σ:L2.St} {H G:Hp} {s:Shared} {ρ:Rho} {ds:List D} {r:Except Nat (List D)} {J:It} {fp:List Addr} {it:Addr} {tn:Nat->Heap->Prop} {E:VSt} {RR:Value->Addr->Result->Shared->Prop}
  (hc:X.calm=true) (hk:scope.kind = .function) (hok:zAN X.N nm scope.names X.env.scope.names=true) (hkg:zBt X.N.length gd)
  (hg:∀ C s₃ H₃ ex,SG (zj X nm scope C s₃ H₃ ex) tg gd) (ht:∀ C s₃ H₃ ex,STs (zj X nm scope C s₃ H₃ ex) ifs p) (he:∀ (C:Addr) (s₃:Shared) (H₃:Hp) (ex:List Addr) (EE:VSt),zBb (CXE X.prog X.w) ((zj X nm scope C s₃ H₃ ex).wish EE) W->PE ((zj X nm scope C s₃ H₃ ex).wish EE) elt (tCx X.K κ W f)) (hex:∀ u o H',W u o H'->X.ex = [])
  (I:Inv X pins σ H s) (T:zQo X.prog X.w X.K tg J fp it tn) (h0:tn 0 s.heap) (hfp:∀ b∈fp,FpOk X pins H b) (sm:zf G H) (er:Er X.K G H ρ σ) (iter':zNs X.K G J ds) (hl:ds.length<=1000000)
  (hys:zCS gd p f ds (ρ++List.replicate nm.length .un)=some r)
  (hW:∀ c,r = .error c->∀ G' H',zd G H G' H'->W (.ref (κ c)) none H')
  (hRR:∀ ys,r = .ok ys->∀ (D C:Addr) (s':Shared) (H' G':Hp) (vs:List V) (m':MGt),Inv X pins σ H' s'->zd G H G' H'->H D=none->G' D=none->H' D=some (.lst vs)->Reps X.K G' ys vs->s'.heap.Ns C m'->H' C=none->C≠X.env.locals ->
   X.s₀.heap.objs.size<=C->(∀ x c,X.env.cells.lookup x=some c->c≠C)->(∀ p∈X.pn++pins,p.1≠C)->RR (.ref D) C (.ok .next) s')
  (hERR:∀ (acc:Value) (C:Addr) (s':Shared) (H':Hp) (x T' C0:Addr) (m':MGt),Inv X pins σ H' s'->Fly X.stack x T' (.ref C0) s'.heap->X.s₀.heap.get? x=none->X.s₀.heap.get? T'=none->H' x=none->H' T'=none->W (.ref C0) none H'->s'.heap.Ns C m'->H' C=none->C≠X.env.locals ->
   X.s₀.heap.objs.size<=C->(∀ x c,X.env.cells.lookup x=some c->c≠C)->(∀ p∈X.pn++pins,p.1≠C)->x≠C->T'≠C->notedBy (model X.prog X.w) X.A (compEnvC scope (zEg scope.names X.env.cells) C X.env) (λe s''=>RR acc C (.error e) s'') (.ref x) s') :
  wpAny (model X.prog X.w) X.A (newList []) (λacc s₃=>wpAny (model X.prog X.w) X.A (newFunctionEnv scope X.env.globals (zEg scope.names X.env.cells) [] X.env.qual none .none (some X.env)) (λcenv s₄=>
   codeAny (model X.prog X.w) X.A (.compStart (.ListComp elt [⟨tg,iter,ifs,0⟩] scope pos) 0 (.ref it) acc { cenv with scope:=relabel scope X.env }) (RR acc cenv.locals) s₄) E s₃) E s:=by
 have hfplt:∀ b∈fp,b<s.heap.objs.size:=λb hb=>by
  obtain ⟨o,e,_⟩:=T.obj 0 s.heap h0 b hb
  exact zVB e
 refine zWn ?_
 have I₃:Inv X pins σ (upd H s.heap.objs.size (.lst [])) { s with heap:=s.heap.push { cls:=.type "list",data:=.seq ([]:List Value).toArray } }:=I.lnew (t':=s.toks) (ys:=[]) (its:=[]) .nil (zWS _)
 have nD:H s.heap.objs.size=none:=I.fresh
 generalize hs₃:({ s with heap:=s.heap.push { cls:=.type "list",data:=.seq ([]:List Value).toArray } }:Shared)=s₃ at I₃ ⊢
 have hsz3:s₃.heap.objs.size=s.heap.objs.size+1:=by rw [<- hs₃];exact zW8 ..
 have hfp3:∀ b∈fp,FpOk X pins (upd H s.heap.objs.size (.lst [])) b:=λb hb=>⟨by rw [zJ (zVN (hfplt b hb))];exact (hfp b hb).1,(hfp b hb).2⟩
 have hlt3:∀ b∈fp,b<s₃.heap.objs.size:=λb hb=>by rw [hsz3];exact Nat.lt_succ_of_lt (hfplt b hb)
 have st3:tn 0 s₃.heap:=T.keep 0 s.heap _ h0 λb hb o e=>by rw [<- hs₃];exact zU5 _ e
 refine wpAny_newFunctionEnv (λy hy=>(yk hok hy).1) (by intro y hy;simp at hy) (λh₁ hns₁ hsb₁=>?_) hk
 have keep:∀ b o,s₃.heap.get? b=some o->h₁.get? b=some o:=λb o e=>hsb₁.extBut b o (zVN (zVB e)) (zU5 _ e)
 have I4:=zKm (nm:=nm) (scope:=scope) (tk:=s₃.toks+([]:List (Str×Value)).length) I₃ hk hok hfp3 hlt3 hns₁ keep
 have st4:tn 0 h₁:=T.keep 0 _ _ st3 λb hb o e=>keep b o e
 generalize hs₄:({ s₃ with heap:=h₁,toks:=s₃.toks+([]:List (Str×Value)).length }:Shared)=s₄ at I4
 have st4':tn 0 s₄.heap:=by rw [<- hs₄];exact st4
 show codeAny _ _ (.compStart _ 0 (.ref it) (.ref s.heap.objs.size) (compEnvC scope (zEg scope.names X.env.cells) s₃.heap.objs.size X.env)) (RR (.ref s.heap.objs.size) s₃.heap.objs.size) s₄
 have hb3:∀ b∈fp,FpOk (zj X nm scope s₃.heap.objs.size s₃ (upd H s.heap.objs.size (.lst [])) fp) [] (upd H s.heap.objs.size (.lst [])) b:=λb hb=>
  ⟨(hfp3 b hb).1,(I4.ok.exf b hb).1,λz=>I4.ok.exfs b hb z,.inl hb,(I4.ok.exf b hb).2,λp hp=>(by simp [zj] at hp)⟩
 have stat:∀ {H':Hp},(∀ b∈fp,H' b=none)->∀ b∈fp,FpOk (zj X nm scope s₃.heap.objs.size s₃ (upd H s.heap.objs.size (.lst [])) fp) [] H' b:=λhn b hb=>⟨hn b hb,(hb3 b hb).2⟩
 have hr:ρ.length=X.N.length:=by rw [er.len,I.len]
 have loop:codeAny (model X.prog X.w) X.A (.compLoop (.ListComp elt [⟨tg,iter,ifs,0⟩] scope pos) 0 (.ref it) (.ref s.heap.objs.size) (compEnvC scope (zEg scope.names X.env.cells) s₃.heap.objs.size X.env)) (RR (.ref s.heap.objs.size) s₃.heap.objs.size) s₄:=by
  refine zHg (λn s'=>∃ i σ' H1 G1 zs vs rest,n=ds.length-i/\i<=ds.length/\Inv (zj X nm scope s₃.heap.objs.size s₃ (upd H s.heap.objs.size (.lst [])) fp) [] σ' H1 s'/\tn i s'.heap/\(∀ b∈fp,H1 b=none) /\
    zd G H G1 H1/\Er X.K G1 H1 (ρ++List.replicate nm.length .un) σ'/\zEi H1 (ρ++List.replicate nm.length .un) σ' s.heap.objs.size/\G1 s.heap.objs.size=none/\H1 s.heap.objs.size=some (.lst vs)/\Reps X.K G1 zs vs/\zs.length<=i /\
    zCS gd p f (ds.drop i) (ρ++List.replicate nm.length .un)=some rest/\r=zUA zs rest) ?_ ds.length
   ⟨0,_,_,G,[],[],r,by simp,zWS _,I4,st4',λb hb=>(hfp3 b hb).1,zd.newH sm nD,(er.step (zd.newH sm nD)).app nm.length _ (by simp),((zEi.new er nD).grow er (yh nD)).app er,sm.free nD,zN,Reps.nil,zVA _,by simpa using hys,by cases r<;>rfl⟩
  rintro n s5 ⟨i,σ5,H5,G5,zs,vs,rest,rfl,hi,I5,st5,fr5,t5,er5,nd5,gD5,hD5,rz5,lz5,ec5,ey5⟩
  by_cases hlt:i<ds.length
  ·have ed:ds.drop i=ds[i]::ds.drop (i+1):=zWR hlt
   rw [ed] at ec5
   obtain ⟨ρ6,e6,ec5⟩:=zUs.mp ec5
   obtain ⟨b6,e7,ec5⟩:=zUs.mp ec5
   refine zVk (T.item (zj X nm scope s₃.heap.objs.size s₃ (upd H s.heap.objs.size (.lst [])) fp) rfl rfl rfl hc i [] s5 σ5 H5 (notedBy (model X.prog X.w) X.A _ λe s'=>RR (.ref s.heap.objs.size) s₃.heap.objs.size (.error e) s') I5 (stat fr5) st5 (iter'.go i H5 (t5.g.trans t5.s) hlt)) (λr s6 zz=>?_) λ_ _ z=>z
   obtain ⟨u,hr6,h6⟩:=zz
   subst hr6
   refine zVk h6 (λ_ s7 zz=>?_) λ_ _ z=>z
   obtain ⟨x7,H7,I7,rx7,y7,st7,fr7⟩:=zz
   obtain ⟨G7,t7,r7⟩:=iter'.yld i G5 H5 x7 H7 t5.g t5.s hlt y7
   have I7':=I7.pinned (stat fr7) (T.obj _ _ st7)
   have er7:=er5.step t7
   have hx:(zj X nm scope s₃.heap.objs.size s₃ (upd H s.heap.objs.size (.lst [])) fp).xe=λ_ _=>False:=rfl
   obtain ⟨k1,k2,k3⟩:=hkg _ _ _ e6
   rw [<- hr] at k2
   have nd7:=nd5.grow er5 t7.h
   have hgr:=hg s₃.heap.objs.size s₃ (upd H s.heap.objs.size (.lst [])) fp _ s7 σ5 H7 x7 u (λσ8 H8=>H8=H7/\Er X.K G7 H7 ρ6 σ8/\zEi H7 ρ6 σ8 s.heap.objs.size) I7' rx7
    ⟨G7,qM H7 _ σ5,G7,_,ds[i],ρ6,er7.toSt t7.s,r7 _ (by simp [hlt]),e6,λσ8 st8=>⟨rfl,st8.er,zOP er7 nd7 st8 k3 (t7.h _ _ hD5)⟩⟩
   refine zVk hgr (λ_ s8 ⟨σ8,H8,I8,e8,er8,nd8⟩=>?_) λ_ _ z=>(by rw [hx] at z;exact z.elim)
   subst e8
   have again:∀ {G9 H9:Hp} {s9:Shared} {zs':List D} {vs':List V} {rest':Except Nat (List D)},Inv (zj X nm scope s₃.heap.objs.size s₃ (upd H s.heap.objs.size (.lst [])) fp) ([]++zHJ fp s7.heap) σ8 H9 s9->zd G H G9 H9->Er X.K G9 H9 ρ6 σ8->zEi H9 ρ6 σ8 s.heap.objs.size->G9 s.heap.objs.size=none->H9 s.heap.objs.size=some (.lst vs')->Reps X.K G9 zs' vs' ->
     zs'.length<=i+1->zCS gd p f (ds.drop (i+1)) (ρ++List.replicate nm.length .un)=some rest'->r=zUA zs' rest'->∃ m,m<ds.length-i/\∃ i σ' H1 G1 zs vs rest,m=ds.length-i/\i<=ds.length/\Inv (zj X nm scope s₃.heap.objs.size s₃ (upd H s.heap.objs.size (.lst [])) fp) [] σ' H1 s9/\tn i s9.heap/\(∀ b∈fp,H1 b=none) /\
    zd G H G1 H1/\Er X.K G1 H1 (ρ++List.replicate nm.length .un) σ'/\zEi H1 (ρ++List.replicate nm.length .un) σ' s.heap.objs.size/\G1 s.heap.objs.size=none/\H1 s.heap.objs.size=some (.lst vs)/\Reps X.K G1 zs vs/\zs.length<=i /\
    zCS gd p f (ds.drop i) (ρ++List.replicate nm.length .un)=some rest/\r=zUA zs rest:=λ{G9 H9 s9 zs' vs' rest'} I9 t9 er9 n9 g9 h9 r9 l9 c9 y9=>by
    refine ⟨ds.length-(i+1),by omega,i+1,σ8,H9,G9,zs',vs',rest',rfl,hlt,I9.unpinned,T.keep _ _ _ st7 λb hb o e=>(I9.pin (b,o) (zVD _ (zVD _ (zCC hb e)))).1,λb hb=>?_,t9,er9.drop k1 k2,n9.drop k2,g9,h9,r9,l9,c9,y9⟩
    obtain ⟨o,e,d⟩:=T.obj _ _ st7 b hb
    exact (I9.pin (b,o) (zVD _ (zVD _ (zCC hb e)))).2.1
   refine zMA (X:=zj X nm scope s₃.heap.objs.size s₃ (upd H s.heap.objs.size (.lst [])) fp) hx (ht s₃.heap.objs.size s₃ (upd H s.heap.objs.size (.lst [])) fp) I8 t7.s er8 e7 λG9 H9 s9 I9 t9=>?_
   have tt:=(t5.trans t7).trans t9
   have gD9:G9 s.heap.objs.size=none:=by
    cases q:G9 s.heap.objs.size with
    |none=>rfl
    |some o=>
     have:=(t7.trans t9).f _ o q gD5
     rw [hD5] at this;cases this
   have hD9:H9 s.heap.objs.size=some (.lst vs):=(t7.trans t9).h _ _ hD5
   cases b6 with
   |false=>
    rw [zVe zVV] at ec5 ⊢
    exact again I9 tt (er8.step t9) (nd8.grow er8 t9.h) gD9 hD9 (Reps.mono (t7.trans t9).g _ _ rz5) (by omega) ec5 ey5
   |true=>
   rw [zVE rfl] at ec5 ⊢
   obtain ⟨rr,e10,ec5⟩:=zUs.mp ec5
   have hP:zBb (CXE X.prog X.w) ((zj X nm scope s₃.heap.objs.size s₃ (upd H s.heap.objs.size (.lst [])) fp).wish λe s'=>∃ pins' σ' Hs s0,Inv (zj X nm scope s₃.heap.objs.size s₃ (upd H s.heap.objs.size (.lst [])) fp) pins' σ' Hs s0/\CXE X.prog X.w X.stack Hs s0 W e s') W:=λpins' σ' Hs s0 e s' J h=>⟨pins',σ',Hs,s0,J.unwish,h⟩
   have her:=he s₃.heap.objs.size s₃ (upd H s.heap.objs.size (.lst [])) fp _ hP
   have bad:∀ e s',(∃ pins' σ' Hs s0,Inv (zj X nm scope s₃.heap.objs.size s₃ (upd H s.heap.objs.size (.lst [])) fp) pins' σ' Hs s0/\CXE X.prog X.w X.stack Hs s0 W e s')->notedBy (model X.prog X.w) X.A (compEnvC scope (zEg scope.names X.env.cells) s₃.heap.objs.size X.env) (λe s''=>RR (.ref s.heap.objs.size) s₃.heap.objs.size (.error e) s'') e s':=λe s' z=>by
    obtain ⟨pins',σ',Hs,s0,J0,x,T',C0,H',rfl,os,bare,un,hok',fly,nx,nT,hx',hT',hE⟩:=z
    have Iout0:Inv X pins σ Hs s0:=I₃.call' (ch:=fp) J0.os J0.base J0.hok J0.bare λb hb=>⟨(hfp b hb).2.2.2.1,(hfp b hb).2.1,(hfp b hb).2.2.2.2.1,(hfp b hb).2.2.2.2.2⟩
    have Iout:Inv X pins σ H' s':=Iout0.call' os un hok' bare λb m=>absurd m (by simp)
    have J1:Inv (zj X nm scope s₃.heap.objs.size s₃ (upd H s.heap.objs.size (.lst [])) fp) pins' σ' H' s':=J0.call' os un hok' bare λb m=>absurd m (by simp)
    obtain ⟨m0,hn0,_⟩:=J0.loc
    obtain ⟨m1,hn1,_⟩:=J1.loc
    have there:∃ o,s0.heap.get? s₃.heap.objs.size=some o:=by obtain ⟨o,_,_,q,_⟩:=hn0;exact ⟨o,q⟩
    obtain ⟨oC,hC0⟩:=there
    have old:∀ b,s0.heap.get? b=none->X.s₀.heap.get? b=none:=λb n=>by
     cases q:X.s₀.heap.get? b with
     |none=>rfl
     |some o=>
      obtain ⟨o',q'⟩:=Iout0.base.there b o q (by rw [hex _ _ _ hE];simp)
      rw [n] at q';cases q'
    exact hERR (.ref s.heap.objs.size) s₃.heap.objs.size s' H' x T' C0 m1 Iout fly (old x nx) (old T' nT) hx' hT' hE hn1 J1.free (zXS I₃.lt) I₃.sz (λx c e=>zVN (by obtain ⟨v,q⟩:=I₃.cell x c e;exact q.lt)) (λp hp=>zVN (zVB (I₃.pin p hp).1)) (λz=>by subst z;rw [nx] at hC0;cases hC0) (λz=>by subst z;rw [nT] at hC0;cases hC0)
   cases rr with
   |error c=>
    simp only [zWk] at ec5
    have er':r = .error c:=by rw [ey5,<- ec5];rfl
    have her:=her _ s9 σ8 H9 (λ_ _=>False) (I9.wish _) ⟨G9,ρ6,_,t9.s,er8.step t9,e10,λG' H' t=>hW c er' G' H' (tt.trans t)⟩
    refine zVk her (λuy s10 ⟨vy,H10,I10,rvy,z⟩=>z.elim) λe s' z=>?_
    exact bad e s' z
   |ok y=>
    obtain ⟨rest',e11,ec5⟩:=zUt.mp ec5
    have her:=her _ s9 σ8 H9 (λv H'=>∃ G',zd G9 H9 G' H'/\Rep X.K G' y v) (I9.wish _) ⟨G9,ρ6,_,t9.s,er8.step t9,e10,λv G' H' t r=>⟨G',t,r⟩⟩
    refine zVk her (λuy s10 ⟨vy,H10,I10,rvy,G10,t10,ry⟩=>?_) λe s' z=>?_
    ·have I10:=I10.unwish
     have gD10:G10 s.heap.objs.size=none:=by
      cases q:G10 s.heap.objs.size with
      |none=>rfl
      |some o=>
       have:=t10.f _ o q gD9
       rw [hD9] at this;cases this
     have hD10:H10 s.heap.objs.size=some (.lst vs):=t10.h _ _ hD9
     have tt10:=tt.trans t10
     have lv:vs.length=zs.length:=rz5.length.symm
     have hap:=zBr (X:=zj X nm scope s₃.heap.objs.size s₃ (upd H s.heap.objs.size (.lst [])) fp) _ s10 σ8 H10 (.ref s.heap.objs.size) [vy] (.ref s.heap.objs.size) [uy] (λ_ H'=>H'=upd H10 s.heap.objs.size (.lst (vs ++ [vy]))) I10 rfl (.cons rvy .nil)
      ⟨s.heap.objs.size,vs,vy,rfl,rfl,hD10,zU8 (by omega:vs.length<1000001) (by decide),rfl⟩
     refine zVk hap (λ_ s11 ⟨_,H11,I11,_,e11'⟩=>?_) λ_ _ z=>(by rw [hx] at z;exact z.elim)
     subst e11'
     have sG:zf G10 (upd H10 s.heap.objs.size (.lst (vs ++ [vy]))):=λb o e=>by
      rw [zJ (λz=>by rw [z,gD10] at e;cases e)];exact t10.s b o e
     have t11:zd G H G10 (upd H10 s.heap.objs.size (.lst (vs ++ [vy]))):=⟨tt10.g,λb o e=>by rw [zJ (yl e nD)];exact tt10.h b o e,sG,tt10.f⟩
     have nd10:zEi H10 ρ6 σ8 s.heap.objs.size:=(nd8.grow er8 t9.h).grow (er8.step t9) t10.h
     have er11:Er X.K G10 (upd H10 s.heap.objs.size (.lst (vs ++ [vy]))) ρ6 σ8:=((er8.step t9).step t10).updOther nd10
     exact again I11 t11 er11 (nd10.upd ((er8.step t9).step t10)) gD10 zN ((Reps.mono ((t7.trans t9).trans t10).g _ _ rz5).append (Reps.cons ry Reps.nil)) (by simp only [zU9,zUv,zVC];omega) e11 (by rw [ey5,<- ec5];cases rest'<;>simp [zUA])
    ·exact bad e s' z
  ·have e:i=ds.length:=by omega
   subst e
   rw [List.drop_length] at ec5
   cases ec5
   simp only [zUA,zVZ] at ey5
   refine zVk (T.done (zj X nm scope s₃.heap.objs.size s₃ (upd H s.heap.objs.size (.lst [])) fp) rfl rfl rfl hc _ [] s5 σ5 H5 (notedBy (model X.prog X.w) X.A _ λe s'=>RR (.ref s.heap.objs.size) s₃.heap.objs.size (.error e) s') I5 (stat fr5) st5 (iter'.stop _ H5 (t5.g.trans t5.s) (zVA _))) (λr s6 zz=>?_) λ_ _ z=>z
   obtain ⟨hr6,I6⟩:=zz
   subst hr6
   have Iout:Inv X pins σ H5 s6:=I₃.call' (ch:=fp) I6.os I6.base I6.hok I6.bare λb hb=>⟨(hfp b hb).2.2.2.1,(hfp b hb).2.1,(hfp b hb).2.2.2.2.1,(hfp b hb).2.2.2.2.2⟩
   obtain ⟨m6,hn6,_⟩:=I6.loc
   exact hRR zs ey5 s.heap.objs.size s₃.heap.objs.size s6 H5 G5 vs m6 Iout t5 nD gD5 hD5 rz5 hn6 I6.free (zXS I₃.lt) I₃.sz (λx c e=>zVN (by obtain ⟨v,q⟩:=I₃.cell x c e;exact q.lt)) λp hp=>zVN (zVB (I₃.pin p hp).1)
 exact codeAny_compStart_list loop (T.self _ 0 s₄ _ _ st4' loop)
theorem zHx {ifs:List Expr} {p:ROb} {f:ROd} {pins:PNt} {σ:L2.St} {H G:Hp} {s:Shared} {ρ:Rho} {ds ys:List D} {J:It} {fp:List Addr} {it:Addr} {tn:Nat->Heap->Prop} {E:VSt} {RR:Value->Addr->Result->Shared->Prop}
  (hc:X.calm=true) (hk:scope.kind = .function) (hok:zAN X.N nm scope.names X.env.scope.names=true) (hkg:zBt X.N.length gd)
  (hg:∀ C s₃ H₃ ex,SG (zj X nm scope C s₃ H₃ ex) tg gd) (ht:∀ C s₃ H₃ ex,STs (zj X nm scope C s₃ H₃ ex) ifs p) (he:∀ C s₃ H₃ ex,SE (zj X nm scope C s₃ H₃ ex) elt f)
  (I:Inv X pins σ H s) (T:zQo X.prog X.w X.K tg J fp it tn) (h0:tn 0 s.heap) (hfp:∀ b∈fp,FpOk X pins H b) (sm:zf G H) (er:Er X.K G H ρ σ) (iter':zNs X.K G J ds) (hl:ds.length<=1000000)
  (hys:zP gd p f ds (ρ++List.replicate nm.length .un)=some ys)
  (hRR:∀ (D C:Addr) (s':Shared) (H' G':Hp) (vs:List V) (m':MGt),Inv X pins σ H' s'->zd G H G' H'->H D=none->G' D=none->H' D=some (.lst vs)->Reps X.K G' ys vs->s'.heap.Ns C m'->H' C=none->C≠X.env.locals ->
   X.s₀.heap.objs.size<=C->(∀ x c,X.env.cells.lookup x=some c->c≠C)->(∀ p∈X.pn++pins,p.1≠C)->RR (.ref D) C (.ok .next) s') :
  wpAny (model X.prog X.w) X.A (newList []) (λacc s₃=>wpAny (model X.prog X.w) X.A (newFunctionEnv scope X.env.globals (zEg scope.names X.env.cells) [] X.env.qual none .none (some X.env)) (λcenv s₄=>
   codeAny (model X.prog X.w) X.A (.compStart (.ListComp elt [⟨tg,iter,ifs,0⟩] scope pos) 0 (.ref it) acc { cenv with scope:=relabel scope X.env }) (RR acc cenv.locals) s₄) E s₃) E s:=by
 refine zF4 (κ:=λ_=>0) (W:=λ_ _ _=>False) (f:=λρ=>(f ρ).map .ok) hc hk hok hkg hg ht (λC s₃ H₃ ex EE _=>?_) (λ_ _ _ z=>z.elim) I T h0 hfp sm er iter' hl (zGk hys) (λc z=>by cases z) (λys' z=>by cases z;exact hRR) λ_ _ _ _ _ _ _ _ _ _ _ _ _ _ z=>z.elim
 intro pins s σ H Q I h
 obtain ⟨G,ρ,r,s',er,ef,k⟩:=h
 obtain ⟨d,e1,rfl⟩:=zUt.mp ef
 exact zVk (he C s₃ H₃ ex pins s σ H Q I.unwish ⟨G,ρ,d,s',er,e1,k⟩) (λu s2 ⟨v,H2,I2,q⟩=>⟨v,H2,I2.wish _,q⟩) λ_ _ z=>z.elim
end
def tCF (K:Fg) (κ:Nat->Addr) (W:XK) (g:Rho->Option (Except Nat (List D))):TE:=λσ H Q=>∃ G ρ r,zf G H/\Er K G H ρ σ/\g ρ=some r/\match r with
 |.ok ys=>∀ a vs G' H',zd G H G' H'->H a=none->G' a=none->H' a=some (.lst vs)->Reps K G' ys vs->Q (.ref a) H'
 |.error c=>∀ G' H',zd G H G' H'->W (.ref (κ c)) none H'
section
variable {P:Program} {w:World} {K:Fg} {mg:MGt} {base:Heap} {N:List Str} {qual:Str} {scp:Scope} {fa:Addr} {cd:Value} {A:Around} {outer:List Env} {s₀:Shared} {H₀:Hp} {E:XK} {tg iter elt o:Expr} {scope:Scope} {pos pos' spos:Pos} {nm:List Str} {fl:ROl} {gd:D->Rho->Option Rho} {g:Rho->Option (Except Nat D)} {κ:Nat->Addr} {C:Addr} {fld:Str}
theorem zOs {m:Nat} (hm:nm.length=m) (hk:scope.kind = .function) (hok:zAN N nm scope.names scp.names=true) (hi:SI (cxE P w K mg base N qual scp fa cd A outer s₀ H₀ E) tg iter fl) (hkg:zBt N.length gd)
  (hg:∀ C s₃ H₃ ex,SG (zj (cxE P w K mg base N qual scp fa cd A outer s₀ H₀ E) nm scope C s₃ H₃ ex) tg gd) (he:∀ (C:Addr) (s₃:Shared) (H₃:Hp) (ex:List Addr) (EE:VSt),zBb (CXE P w) ((zj (cxE P w K mg base N qual scp fa cd A outer s₀ H₀ E) nm scope C s₃ H₃ ex).wish EE) E->PE ((zj (cxE P w K mg base N qual scp fa cd A outer s₀ H₀ E) nm scope C s₃ H₃ ex).wish EE) elt (tCx K κ E g))
  (hs:∀ x,foldedSetIterable iter (cxE P w K mg base N qual scp fa cd A outer s₀ H₀ E).env x=pure x:=by intro _;rfl):PE (cxE P w K mg base N qual scp fa cd A outer s₀ H₀ E) (.ListComp elt [⟨tg,iter,[],0⟩] scope pos) (tCF K κ E (zF2 m fl gd g)):=by
 intro pins s σ H Q I h
 obtain ⟨G,ρ,r,sm,er,ef,k⟩:=h
 obtain ⟨ds,e1,e2⟩:=zUs.mp ef
 split at e2
 ·rename_i hl
  subst hm
  have hok':zAN (cxE P w K mg base N qual scp fa cd A outer s₀ H₀ E).N nm scope.names (cxE P w K mg base N qual scp fa cd A outer s₀ H₀ E).env.scope.names=true:=hok
  have hclos:closureFor scope (cxE P w K mg base N qual scp fa cd A outer s₀ H₀ E).env=pure (zEg scope.names (cxE P w K mg base N qual scp fa cd A outer s₀ H₀ E).env.cells):=zBL λy hy hf=>I.ok.has y.1 ((yk hok' hy).2.2.2 hf)
  rw [eval_ListComp]
  refine zWt (use:=none) rfl hs hclos hk (λy hy=>(yk hok' hy).2.2.1) (thn (hi pins s σ H _ I ⟨G,ρ,ds,sm,er,e1,λJ G' H' t it=>(⟨G',t,it⟩:∃ G',zd G H G' H'/\zNs K G' J ds)⟩) λv s1 h1=>thn h1 λitv s2 h2=>?_)
  obtain ⟨it,fp,tn,J,H2,rfl,I2,T,st2,f2,G2,t2,it2⟩:=h2
  refine zF4 (X:=(cxE P w K mg base N qual scp fa cd A outer s₀ H₀ E)) (W:=E) (κ:=κ) (RR:=λacc C=>compPost (model P w) (cxE P w K mg base N qual scp fa cd A outer s₀ H₀ E).A (cxE P w K mg base N qual scp fa cd A outer s₀ H₀ E).xe none (EP (cxE P w K mg base N qual scp fa cd A outer s₀ H₀ E) pins σ Q) acc C) rfl hk hok' hkg hg (λ_ _ _ _=>.inl ⟨rfl,rfl⟩) he (λ_ _ _ _=>rfl) I2 T st2 f2 t2.s (er.step t2) it2 hl ((zJz ds).trans e2) (λc hc G' H' t=>?_) (λys hy D C s' H' G' vs m' I' t' nD gD hD rD hn hC1 hC2 hC3 hC4 hC5=>?_) λacc C s' H' x T' C0 m' I' fly nx nT hx hT hE hn hC1 hC2 hC3 hC4 hC5 xC TC=>?_
  ·subst hc;exact k G' H' (t2.trans t)
  ·subst hy
   refine ⟨m',hn,λh' hs'=>⟨.ref D,H',?_,rfl,k D vs G' H' (t2.trans t') (t2.h.free nD) gD hD rD⟩⟩
   exact I'.turned (t':=s'.toks) (λb o hb e=>hs'.extBut b o hb e) hC1 hC2 (.inr hC3) hC4 hC5
  ·obtain ⟨a0,f1,f2',f3,f4⟩:=fly
   have frm:(cxE P w K mg base N qual scp fa cd A outer s₀ H₀ E).A.frames=some ((cxE P w K mg base N qual scp fa cd A outer s₀ H₀ E).env::outer):=I'.ok.frames
   have f3':s'.heap.FunFrames (PySem.W.hideAll s'.heap (C::x::T'::frs (cxE P w K mg base N qual scp fa cd A outer s₀ H₀ E).stack)) ((cxE P w K mg base N qual scp fa cd A outer s₀ H₀ E).env::outer):=zW2 f3 λenv he a ha=>zUu _ (zUu _ (zUu _ (zVR.mpr ⟨env,he,ha⟩)))
   obtain ⟨oe,vs,T2,oT,ts,g1,g2,g3,g4,g5,g6,g7,g8,g9⟩:=f4
   have eT:(PySem.W.hideAll s'.heap (C::x::T'::frs (cxE P w K mg base N qual scp fa cd A outer s₀ H₀ E).stack)).get? T2=none:=by
    cases q:(PySem.W.hideAll s'.heap (C::x::T'::frs (cxE P w K mg base N qual scp fa cd A outer s₀ H₀ E).stack)).get? T2 with
    |none=>rfl
    |some o=>
     exfalso
     have m2:T2∉x::T'::frs (cxE P w K mg base N qual scp fa cd A outer s₀ H₀ E).stack:=λz=>by
      rw [zWI _ (zUu _ z)] at q;cases q
     rw [zWM _ g7 m2] at g5;cases g5
   have L1:zOq (PySem.W.hideAll s'.heap (C::x::T'::frs (cxE P w K mg base N qual scp fa cd A outer s₀ H₀ E).stack)) ((cxE P w K mg base N qual scp fa cd A outer s₀ H₀ E).env::outer) x (.ref C0) a0 .none s'.heap:=
    ⟨λb o e=>zWz _ e,zWI _ (by simp),f3',oe,vs,T2,oT,ts,g1,g2,g3,g4,eT,g6,g7,g8,g9⟩
   show wpAny (model P w) (cxE P w K mg base N qual scp fa cd A outer s₀ H₀ E).A (noteFrame (.ref x) _) _ _ s'
   rw [show noteFrame (.ref x) (compEnvC scope (zEg scope.names (cxE P w K mg base N qual scp fa cd A outer s₀ H₀ E).env.cells) C (cxE P w K mg base N qual scp fa cd A outer s₀ H₀ E).env)=noteFrame (.ref x) (cxE P w K mg base N qual scp fa cd A outer s₀ H₀ E).env from zFZ rfl]
   refine wpAny_looks_onW frm (L:=s₀.heap.objs.size) rfl ⟨L1.st,L1.no,L1.ff,L1.tr⟩ λh1 held up1=>?_
   refine ⟨m',up1.ns hn,λh2 sb cenv hcl=>?_⟩
   have keepC:∀ b o,b≠C->h1.get? b=some o->h2.get? b=some o:=λb o nb e=>sb.extBut b o nb e
   obtain ⟨w1,w2,w3,oe1,vs1,T1,oT1,ts1,y1,y2,y3,y4,y5,y6,y7,y8,y9⟩:=held
   have bC:(PySem.W.hideAll s'.heap (C::x::T'::frs (cxE P w K mg base N qual scp fa cd A outer s₀ H₀ E).stack)).get? C=none:=zWI _ (by simp)
   have T1C:T1≠C:=λz=>by
    subst z
    obtain ⟨oc,_,_,q1,q2,_⟩:=up1.ns hn
    rw [y7] at q1;cases q1
    rw [y8] at q2;cases q2
   have frC:C∉frs (cxE P w K mg base N qual scp fa cd A outer s₀ H₀ E).stack:=λz=>by
    rcases zVR.mp z with ⟨env,he,hf⟩
    rcases zU1.mp he with rfl|he
    ·exact hC2 (zVs hf).symm
    ·obtain ⟨_,o,q,_⟩:=I'.ok.funs.mem (zVR.mpr ⟨env,he,hf⟩)
     exact absurd (zU8 (zVB q) hC3) (zWE _)
   have L2':zOq (PySem.W.hideAll s'.heap (C::x::T'::frs (cxE P w K mg base N qual scp fa cd A outer s₀ H₀ E).stack)) ((cxE P w K mg base N qual scp fa cd A outer s₀ H₀ E).env::outer) x (.ref C0) a0 (rawInt s₀.heap.objs.size) h2:=
    ⟨λb o e=>keepC b o (λz=>by subst z;rw [bC] at e;cases e) (w1 b o e),L1.no,zEx (λb o m e=>keepC b o (λz=>frC (z ▸ m)) e) w3,oe1,vs1,T1,oT1,ts1,keepC x _ xC y1,y2,y3,y4,y5,y6,keepC T1 _ T1C y7,y8,y9⟩
   refine zOr (s:={ s' with heap:=h2 }) L2' λh3 fl3 L3 keep3=>?_
   show wpAny (model P w) (cxE P w K mg base N qual scp fa cd A outer s₀ H₀ E).A (leaving (cxE P w K mg base N qual scp fa cd A outer s₀ H₀ E).env (.ref x)) _ _ _
   refine zMk (s:={ s' with heap:=h3 }) frm (L:=s₀.heap.objs.size) rfl L3 λh4 fly4 up4=>?_
   refine zMM (s:=s') I' (λb m=>?_) fly4 (λb m o e n=>?_) nx hx hE
   ·rcases zU1.mp m with rfl|m
    ·exact .inr ⟨by
      cases q:s₀.heap.get? b with
      |none=>rfl
      |some o=>exact absurd (zU8 (zVB q) hC3) (zWE _),hC1⟩
    rcases zU1.mp m with rfl|m
    ·exact .inr ⟨nx,hx⟩
    rcases zU1.mp m with rfl|m
    ·exact .inr ⟨nT,hT⟩
    ·exact .inl m
   ·obtain ⟨sl1,e1'⟩:=up1 b o e n
    have bC':b≠C:=λz=>frC (by subst z;exact zVR.mpr (by obtain ⟨env,he,hf⟩:=zVR.mp m;exact ⟨env,zUu _ he,hf⟩))
    have e2':=keepC b _ bC' e1'
    have e3':=keep3 b _ e2' n
    obtain ⟨sl4,e4'⟩:=up4 b _ e3' n
    exact ⟨sl4,e4'⟩
 ·cases e2
theorem zOt (i:Nat) (c:Cls K C) (n:qH K C fld) (ho:PE (cxE P w K mg base N qual scp fa cd A outer s₀ H₀ E) o (zBG i)) {m:Nat} (hm:nm.length=m) (hk:scope.kind = .function) (hok:zAN N nm scope.names scp.names=true) (hi:SI (cxE P w K mg base N qual scp fa cd A outer s₀ H₀ E) tg iter fl) (hkg:zBt N.length gd)
  (hg:∀ C s₃ H₃ ex,SG (zj (cxE P w K mg base N qual scp fa cd A outer s₀ H₀ E) nm scope C s₃ H₃ ex) tg gd) (he:∀ (C:Addr) (s₃:Shared) (H₃:Hp) (ex:List Addr) (EE:VSt),zBb (CXE P w) ((zj (cxE P w K mg base N qual scp fa cd A outer s₀ H₀ E) nm scope C s₃ H₃ ex).wish EE) E->PE ((zj (cxE P w K mg base N qual scp fa cd A outer s₀ H₀ E) nm scope C s₃ H₃ ex).wish EE) elt (tCx K κ E g))
  (hs:∀ x,foldedSetIterable iter (cxE P w K mg base N qual scp fa cd A outer s₀ H₀ E).env x=pure x:=by intro _;rfl) (hsw:swapsWith (.ListComp elt [⟨tg,iter,[],0⟩] scope pos) (some (.Attribute o fld pos')) spos.line (cxE P w K mg base N qual scp fa cd A outer s₀ H₀ E).env=pure false:=by rfl) :
  SX (cxE P w K mg base N qual scp fa cd A outer s₀ H₀ E) κ E (.Assign [.Attribute o fld pos'] (.ListComp elt [⟨tg,iter,[],0⟩] scope pos) spos) (zHw C i fld (zF2 m fl gd g)):=
 yY (zLb ho (zOs hm hk hok hi hkg hg he hs) hsw) λE' σ H=>by
  rintro ⟨G0,H0,G,ρ,out,st,ef,kk⟩
  obtain ⟨r,e1,ef⟩:=zUs.mp ef
  refine ⟨G,ρ,r,st.bs.gh,st.er,e1,?_⟩
  cases r with
  |error c0=>
   cases ef
   exact λG' H' t=>kk G' H' (st.bs.step t)
  |ok ys=>
   obtain ⟨o',ef',rfl⟩:=zUt.mp ef
   obtain ⟨c',fs,hu,hl,hlen,rfl⟩:=zGj ef'
   intro b vs G' H' t h1 h2 h3 rp
   have t':=zLv t h1 h2 h3
   have rep:Rep K (upd G' b (.lst vs)) (.lst ys) (.ref b):=zAL.mpr ⟨b,vs,rfl,SqL.of zN,Reps.mono (yh h2) _ _ rp⟩
   have st':=st.step t'
   obtain ⟨a,q1,q2,q3⟩:=st'.er.slot i _ hu rfl
   obtain ⟨dx,ws,z1,z2,z3,z4,z5⟩:=q2.1.1
   exact ⟨_,q1,a,C,dx,ws,rfl,z1,c,n,by omega,kk σ _ _ (st'.addL (fl:=.v (.lst ys)) (u:=.ref b) hu q1 z1 hl rep (by simp [fpL]) λp m=>by cases m)⟩
end
structure Left (G H G' H':Hp) (l:List Addr):Prop where
 g:zf G G'
 gh:zf G' H'
 fr:∀ b o,G' b=some o->G b=none->H b=none\/b∈l
 h:∀ b o,H b=some o->b∉l->H' b=some o
def zUB (K:Fg) (κ:Nat->Addr) (f:Ob->List D->Option (Except Nat Ob)) (n:Nat):Sp:=λvs H Q E=>∃ G x a ds ws r,vs = .ref a::ws/\zf G H/\At K G H x a/\Reps K G ds ws/\ds.length+1=n/\f x ds=some r/\match r with
 |.ok x'=>∀ G' H',Chg K G H G' H' x x' a->Q .non H'
 |.error c=>∀ G' H',Left G H G' H' (fpO H x a)->E (.ref (κ c)) none H'
theorem zR4 {P:Program} {w:World} {K:Fg} {mg:MGt} {base:Heap} {κ:Nat->Addr} {x qual:Str} {st:Stmt} {fa:Addr} {fd:FuncData} {N ps:List Str} {k:Nat} {F:Rho->Option zAp} {f:Ob->List D->Option (Except Nat Ob)}
  (FF:Fun K x qual st fa fd) (S:zV N ps (zI st))
  (hbody:∀ (cdv:Value) (A:Around) (outer:List Env) (s:Shared) (H:Hp) (E:XK),zAB k (A.deeper (envOfC qual (zI st) s.heap.objs.size fa cdv))->SXs (cxE P w K mg base N qual (zI st) fa cdv A outer s H E) κ E (z8 st) F)
  (hf:∀ a y ds r,ds.length+1=ps.length->f y ds=some r->zT8 N F a y ds=some r):zCe P w K mg base (CXE P w) (k+1) fa fd ps (zUB K κ f ps.length):=by
 obtain ⟨oc,od,kV,doc,pm,an,cdv,ct,osl,rfl,lk,hcd⟩:=FF.ex
 refine zN4 lk hcd S (λvs H Q E h=>?_) λA outer s H vs Q E hr h=>?_
 ·obtain ⟨G,y,a,ds,ws,y',rfl,_,_,r,hn,_⟩:=h
  rw [zUv,<- r.length,hn]
 ·obtain ⟨G,y,a,ds,ws,res,rfl,sm,hA,r,hn,ef,kk⟩:=h
  refine ⟨_,hbody cdv A outer s H E hr,?_⟩
  obtain ⟨o,e1,e2⟩:=zUs.mp (hf a y ds res hn ef)
  have er0:Er K G H (.o (some a) y::ds.map Sl.v) ((V.ref a::ws).map some):=zEr rfl ⟨⟨hA.rep,hA.nd⟩,λc' e=>by cases e;rfl⟩ hA.fr r
  have er:=er0.app (N.length-(ds.length+1)) (List.replicate (N.length-(ds.length+1)) none) (by simp)
  have es:L2.zBH N (.ref a::ws)=(V.ref a::ws).map some++List.replicate (N.length-(ds.length+1)) none:=by rw [zCI,zUv,<- r.length]
  have hσ:((V.ref a::ws).map some++List.replicate (N.length-(ds.length+1)) none)[0]?=some (some (.ref a)):=by simp
  have no:=λb=>zCl (H:=H) (x:=y) (ds:=ds) (m:=N.length-(ds.length+1)) (b:=b) hσ
  rw [es]
  refine ⟨G,qM H _ _,G,_,o,er.toSt sm,e1,?_⟩
  cases o with
  |ex c=>
   cases e2
   intro G' H' b
   refine kk G' H' ⟨b.gg,b.gh,λd o e n=>?_,λd o e n=>b.hh d o (by rw [(no d).2 n];exact e)⟩
   have z:=b.fr d o e n
   by_cases hb:d∈fpO H y a
   ·exact .inr hb
   ·rw [(no d).2 hb] at z;exact .inl z
  |o out=>
   cases out with
   |nx ρ=>
    obtain ⟨y',e3,rfl⟩:=zUt.mp e2
    clear e2
    unfold zA3 at e3
    split at e3
    ·rename_i c y1 q0
     split at e3
     ·rename_i hc
      cases e3
      subst hc
      intro σ' G' H' st'
      obtain ⟨a',g1,g2,g3⟩:=st'.er.slot 0 _ q0 rfl
      have:a'=a:=g2.2 a rfl
      subst this
      refine kk G' H' ⟨st'.bs.gg,st'.bs.gh,λb o e n=>?_,λb o e n=>st'.bs.hh b o (by rw [(no b).2 n];exact e),⟨g2.1.1,g2.1.2,g3⟩,λc m=>?_⟩
      ·have z:=st'.bs.fr b o e n
       by_cases hb:b∈fpO H y a'
       ·exact .inr hb
       ·rw [(no b).2 hb] at z;exact .inl z
      ·have z:=st'.ows 0 _ a' q0 rfl g1 c m
       by_cases hb:c∈fpO H y a'
       ·exact .inl hb
       ·rw [(no c).2 hb] at z;exact .inr z
     ·cases e3
    ·cases e3
   |rt d=>cases e2
   |bk ρ=>cases e2
   |ct ρ=>cases e2
   |ro ρ=>cases e2
   |rm d ρ=>cases e2
section
variable {X:Cx} {tg iter elt:Expr} {ifs:List Expr} {scope:Scope} {pos:Pos} {nm:List Str} {fl:ROl} {gd:D->Rho->Option Rho} {p:ROb} {f:ROd}
theorem qv {m:Nat} (hm:nm.length=m) (hc:X.calm=true) (hk:scope.kind = .function) (hok:zAN X.N nm scope.names X.env.scope.names=true) (hi:SI X tg iter fl) (hkg:zBt X.N.length gd)
  (hg:∀ C s₃ H₃ ex,SG (zj X nm scope C s₃ H₃ ex) tg gd) (ht:∀ C s₃ H₃ ex,STs (zj X nm scope C s₃ H₃ ex) ifs p) (he:∀ C s₃ H₃ ex,SE (zj X nm scope C s₃ H₃ ex) elt f)
  (hs:∀ x,foldedSetIterable iter X.env x=pure x:=by intro _;rfl):SF X (.ListComp elt [⟨tg,iter,ifs,0⟩] scope pos) (zK m fl gd p f):=by
 intro pins s σ H Q I h
 obtain ⟨G,ρ,ys,sm,er,ef,k⟩:=h
 obtain ⟨ds,e1,e2⟩:=zUs.mp ef
 split at e2
 ·rename_i hl
  subst hm
  have hclos:closureFor scope X.env=pure (zEg scope.names X.env.cells):=zBL λy hy hf=>I.ok.has y.1 ((yk hok hy).2.2.2 hf)
  rw [eval_ListComp]
  refine zWt (use:=none) rfl hs hclos hk (λy hy=>(yk hok hy).2.2.1) (thn (hi pins s σ H _ I ⟨G,ρ,ds,sm,er,e1,λJ G' H' t it=>(⟨G',t,it⟩:∃ G',zd G H G' H'/\zNs X.K G' J ds)⟩) λv s1 h1=>thn h1 λitv s2 h2=>?_)
  obtain ⟨it,fp,tn,J,H2,rfl,I2,T,st2,f2,G2,t2,it2⟩:=h2
  refine zHx (RR:=λacc C=>compPost (model X.prog X.w) X.A X.xe none (EP X pins σ Q) acc C) hc hk hok hkg hg ht he I2 T st2 f2 t2.s (er.step t2) it2 hl e2 λD C s' H' G' vs m' I' t' nD gD hD rD hn hC1 hC2 hC3 hC4 hC5=>?_
  refine ⟨m',hn,λh' hs'=>⟨.ref D,H',?_,rfl,k D vs G' H' (t2.trans t') (t2.h.free nD) gD hD rD⟩⟩
  exact I'.turned (t':=s'.toks) (λb o hb e=>hs'.extBut b o hb e) hC1 hC2 (.inr hC3) hC4 hC5
 ·cases e2
theorem zJ0 {m:Nat} {x:Str} {py spos:Pos} {i:Nat} {fo:Rho->List D->Out} (hm:nm.length=m) (hc:X.calm=true) (hk:scope.kind = .function) (hok:zAN X.N nm scope.names X.env.scope.names=true) (hi:SI X tg iter fl) (hkg:zBt X.N.length gd)
  (hg:∀ C s₃ H₃ ex,SG (zj X nm scope C s₃ H₃ ex) tg gd) (ht:∀ C s₃ H₃ ex,STs (zj X nm scope C s₃ H₃ ex) ifs p) (he:∀ C s₃ H₃ ex,SE (zj X nm scope C s₃ H₃ ex) elt f)
  (hN:X.N.Nodup) (hx:X.N[i]?=some x) (hloc:Loc X.env.scope x)
  (hsw:swapsWith (.ListComp elt [⟨tg,iter,ifs,0⟩] scope pos) (some (.Name x py)) spos.line X.env=pure true)
  (hf:X.fn x=true\/X.env.scope.names.lookup x=some .local) (hs:∀ x,foldedSetIterable iter X.env x=pure x)
  (hfo:∀ {G0 H0 G H G' H':Hp} {ρ:Rho} {σ:L2.St} {a:Addr} {vs:List V} {ys:List D} {E:zLR},StR X.K G0 H0 G H ρ σ->zd G H G' H'->H a=none->G' a=none->H' a=some (.lst vs)->Reps X.K G' ys vs->zSp X.K G0 H0 E (fo ρ ys)->E.nx (σ.set i (some (.ref a))) H') :
  SS X (.Assign [.Name x py] (.ListComp elt [⟨tg,iter,ifs,0⟩] scope pos) spos) (λρ=>(zK m fl gd p f ρ).map (fo ρ)):=by
 intro pins s σ H E I h
 obtain ⟨G0,H0,G,ρ,o,st,ef,k⟩:=h
 obtain ⟨ys,ef1,rfl⟩:=zUt.mp ef
 obtain ⟨ds,e1,e2⟩:=zUs.mp ef1
 split at e2
 ·rename_i hl
  subst hm
  have hclos:closureFor scope X.env=pure (zEg scope.names X.env.cells):=zBL λy hy hf=>I.ok.has y.1 ((yk hok hy).2.2.2 hf)
  rw [exec_Assign_Name_used _ _ _ _ hsw]
  refine zUz (wpAny_standAt (zUz ?_))
  show wpAny _ X.A (do let _ <- comprehension (.ListComp elt [⟨tg,iter,ifs,0⟩] scope pos) scope X.env _ (newList []) false (eval iter X.env) (some (assign (.Name x py) X.env))) _ _ s
  refine zUz (zVk (zWt (use:=some (assign (.Name x py) X.env)) (Q:=λ_ s'=>SP X pins E .next s') rfl hs hclos hk (λy hy=>(yk hok hy).2.2.1)
   (thn (hi pins s σ H _ I ⟨G,ρ,ds,st.bs.gh,st.er,e1,λJ G' H' t it=>(⟨G',t,it⟩:∃ G',zd G H G' H'/\zNs X.K G' J ds)⟩) λv s1 h1=>thn h1 λitv s2 h2=>?_)) (λ_ s' hq=>zU6 (zU6 hq)) λ_ _ e=>e)
  obtain ⟨it,fp,tn,J,H2,rfl,I2,T,st2,f2,G2,t2,it2⟩:=h2
  refine zHx (RR:=λacc C=>compPost (model X.prog X.w) X.A X.xe (some (assign (.Name x py) X.env)) (λ_ s'=>SP X pins E .next s') acc C) hc hk hok hkg hg ht he I2 T st2 f2 t2.s (st.er.step t2) it2 hl e2 λD C s' H' G' vs m' I' t' nD gD hD rD hn hC1 hC2 hC3 hC4 hC5=>?_
  show wpAny _ _ (assign (.Name x py) X.env (.ref D)) _ _ _
  refine wpAny_assign_Name (zHI (v:=.ref D) I' hN hx hloc rfl (λs'' I'' hsb=>?_) hf)
  obtain ⟨a,hsb,ha⟩:=hsb
  have hCa:C≠a:=by
   rcases ha with z|z
   ·rw [z];exact hC2
   ·exact (hC4 x a z).symm
  refine ⟨m',hn.sameBut hsb hCa,λh' hs'=>⟨_,H',I''.turned (t':=s''.toks) (λb o hb e=>hs'.extBut b o hb e) hC1 hC2 (.inr hC3) hC4 hC5,?_⟩⟩
  exact hfo st (t2.trans t') (t2.h.free nD) gD hD rD k
 ·cases e2
variable {m:Nat} {x:Str} {py spos:Pos}
theorem zDe (i:Nat) (hm:nm.length=m) (hc:X.calm=true) (hk:scope.kind = .function) (hok:zAN X.N nm scope.names X.env.scope.names=true) (hi:SI X tg iter fl) (hkg:zBt X.N.length gd)
  (hg:∀ C s₃ H₃ ex,SG (zj X nm scope C s₃ H₃ ex) tg gd) (ht:∀ C s₃ H₃ ex,STs (zj X nm scope C s₃ H₃ ex) ifs p) (he:∀ C s₃ H₃ ex,SE (zj X nm scope C s₃ H₃ ex) elt f)
  (hN:X.N.Nodup) (hx:X.N[i]?=some x) (hloc:Loc X.env.scope x)
  (hsw:swapsWith (.ListComp elt [⟨tg,iter,ifs,0⟩] scope pos) (some (.Name x py)) spos.line X.env=pure true:=by rfl)
  (hf:X.fn x=true\/X.env.scope.names.lookup x=some .local:=by first|exact .inl rfl|exact .inr rfl|assumption) (hs:∀ x,foldedSetIterable iter X.env x=pure x:=by intro _;rfl) :
  SS X (.Assign [.Name x py] (.ListComp elt [⟨tg,iter,ifs,0⟩] scope pos) spos) (qI i λρ=>(zK m fl gd p f ρ).map .lst):=by
 have:=zJ0 (fo:=λρ ys=>.nx (ρ.set i (.v (.lst ys)))) hm hc hk hok hi hkg hg ht he hN hx hloc hsw hf hs (λ{G0 H0 G H G' H' ρ σ a vs ys E} st t h1 h2 h3 r k=>k _ _ _ ((st.step (zLv t h1 h2 h3)).setV (zAL.mpr ⟨a,vs,rfl,SqL.of zN,Reps.mono (yh h2) _ _ r⟩)))
 refine yY this λQ σ H ⟨G0,H0,G,ρ,o,st,ef,k⟩=>⟨G0,H0,G,ρ,o,st,?_,k⟩
 unfold qI at ef
 rw [Option.map_map] at ef
 exact ef
theorem zIq (i:Nat) (hm:nm.length=m) (hc:X.calm=true) (hk:scope.kind = .function) (hok:zAN X.N nm scope.names X.env.scope.names=true) (hi:SI X tg iter fl) (hkg:zBt X.N.length gd)
  (hg:∀ C s₃ H₃ ex,SG (zj X nm scope C s₃ H₃ ex) tg gd) (ht:∀ C s₃ H₃ ex,STs (zj X nm scope C s₃ H₃ ex) ifs p) (he:∀ C s₃ H₃ ex,SE (zj X nm scope C s₃ H₃ ex) elt f)
  (hN:X.N.Nodup) (hx:X.N[i]?=some x) (hloc:Loc X.env.scope x)
  (hsw:swapsWith (.ListComp elt [⟨tg,iter,ifs,0⟩] scope pos) (some (.Name x py)) spos.line X.env=pure true:=by rfl)
  (hf:X.fn x=true\/X.env.scope.names.lookup x=some .local:=by first|exact .inl rfl|exact .inr rfl|assumption) (hs:∀ x,foldedSetIterable iter X.env x=pure x:=by intro _;rfl) :
  SS X (.Assign [.Name x py] (.ListComp elt [⟨tg,iter,ifs,0⟩] scope pos) spos) (qr i (zK m fl gd p f)):=
 zJ0 (fo:=λρ ys=>.nx (ρ.set i (.l ys))) hm hc hk hok hi hkg hg ht he hN hx hloc hsw hf hs (λ{G0 H0 G H G' H' ρ σ a vs ys E} st t h1 h2 h3 r k=>k _ _ _ (st.setOwn t rfl h1 h2 (λxs z=>by cases z;exact ⟨vs,h3,r⟩) λ_ z=>by cases z))
end
section
variable {X:Cx} {κ:Nat->Addr} {C fi:Addr} {fd:FuncData} {ps:List Str} {e:Expr} {es:List Expr} {fl:ROl} {pos p cpos epos np hpos:Pos} {x xc y:Str} {k n:Nat} {F:Ob->List D->Option (Except Nat Ob)} {b₀:Stmt} {suite:List Stmt} {Fh:ROo}
theorem zR5 (M:Mk X.K C fi) (FO:zCe X.prog X.w X.K X.mg X.base (CXE X.prog X.w) k fi fd ps (zUB X.K κ F n)) (hb:zAx X.K fd ps []) (hr:zAB (k+1) X.A) (hg:Gl X x) (hm:X.mg x=some (.ref C)) (hn:(e::es).length+1=n) (ha:SA X.nox (e::es) fl) (hex:X.ex = [])
  {pins:PNt} {σ:L2.St} {H:Hp} {s:Shared} (I:Inv X pins σ H s) {Q Xe:VSt} {G:Hp} {ρ:Rho} {ds:List D} {r:Except Nat Ob} (sm:zf G H) (er:Er X.K G H ρ σ) (e1:fl ρ=some ds) (e2:F (.ins C []) ds=some r)
  (hok:∀ x',r = .ok x'->∀ a G' H' s',zd G H G' H'->At X.K G' H' x' a->(∀ c∈fpO H' x' a,H c=none)->Inv X pins σ H' s'->Q (.ref a) s')
  (hbad:∀ c,r = .error c->∀ G' H' s' y T,zd G H G' H'->Inv X pins σ H' s'->Fly X.stack y T (.ref (κ c)) s'.heap->zIj X pins H' y->zIj X pins H' T->Xe (.ref y) s')
  (hdb:(x == ("__debug__" : Str))=false:=by decide) (he:starEach (e::es) X.env=(false,eval e X.env)::starEach es X.env:=by rfl) (hpl:(backTo pos (starEach es X.env)).any (·.1)=false:=by rfl) :
  wpAny (model X.prog X.w) X.A (eval (.Call (.Name x p) (e::es) [] pos) X.env) Q Xe s:=by
 refine zWe (zGN I hg hm ?_ hdb)
 have hA:=ha.pa pos pins s σ H (λvs H1=>∃ G1,zd G H G1 H1/\Reps X.K G1 ds vs) (I.wish _) ⟨G,ρ,ds,sm,er,e1,λvs G1 H1 t1 r1=>⟨G1,t1,r1⟩⟩
 refine zXT (h₀:=X.base) I.ok.mod.kin M.kp (zVk hA (λus s1 ⟨vs,H1,I1,rv,G1,t1,r1⟩=>⟨I1.unwish.kIn,?_⟩) λ_ _ z=>False.elim z) he hpl
 have I1:=I1.unwish
 have ha0:H1 (s1.heap.objs.size+1)=none:=I1.hok.fresh (zW4 _)
 have hd0:H1 s1.heap.objs.size=none:=I1.hok.fresh (zVA _)
 have hne:s1.heap.objs.size≠s1.heap.objs.size+1:=zVN (zXK _)
 have I2:=Inv.made (C:=C) I1
 generalize hav:s1.heap.objs.size+1=a at ha0 hne I2
 generalize hdv:s1.heap.objs.size=dx at hd0 hne I2
 have g1:G1 a=none:=t1.s.free ha0
 have g2:G1 dx=none:=t1.s.free hd0
 have hH:∀ b u,H1 b=some u->upd (upd H1 dx (.own a)) a (.ins C dx []) b=some u:=λb u e=>by
  rw [zJ (yl e ha0),zJ (yl e hd0)];exact e
 have ea:upd (upd H1 dx (.own a)) a (.ins C dx []) a=some (.ins C dx []):=zN
 have ed:upd (upd H1 dx (.own a)) a (.ins C dx []) dx=some (.own a):=by rw [zJ hne,zN]
 have fe:fpO (upd (upd H1 dx (.own a)) a (.ins C dx [])) (.ins C []) a = [a,dx]:=by simp only [fpO];rw [ea];rfl
 have AA:At X.K G1 (upd (upd H1 dx (.own a)) a (.ins C dx [])) (.ins C []) a:=⟨⟨dx,[],ea,ed,(λq m=>by cases m),(λ_ _=>rfl),zVA _⟩,by rw [fe];simp [Ne.symm hne],λp m=>by
  rw [fe] at m
  rcases zU1.mp m with z|m
  ·subst z;exact g1
  ·cases zUy.mp m;exact g2⟩
 have low:∀ b,b∈fpO (upd (upd H1 dx (.own a)) a (.ins C dx [])) (.ins C []) a->H1 b=none:=λb m=>by
  rw [fe] at m
  rcases zU1.mp m with z|m
  ·subst z;exact ha0
  ·cases zUy.mp m;exact hd0
 have low2:∀ b,upd (upd H1 dx (.own a)) a (.ins C dx []) b=none->H1 b=none:=λb h=>by
  cases q:H1 b with
  |none=>rfl
  |some u=>rw [hH b u q] at h;cases h
 have up:∀ b,H1 b=none->H b=none:=λb h=>by
  cases q:H b with
  |none=>rfl
  |some u=>rw [t1.h b u q] at h;cases h
 have hq:zUB X.K κ F n (V.ref a::vs) (upd (upd H1 dx (.own a)) a (.ins C dx [])) (λv H2=>v = .non/\∃ x' G',r = .ok x'/\Chg X.K G1 (upd (upd H1 dx (.own a)) a (.ins C dx [])) G' H2 (.ins C []) x' a)
   (λu _ H2=>∃ c G',r = .error c/\u = .ref (κ c)/\Left G1 (upd (upd H1 dx (.own a)) a (.ins C dx [])) G' H2 (fpO (upd (upd H1 dx (.own a)) a (.ins C dx [])) (.ins C []) a)):=by
  refine ⟨G1,.ins C [],a,ds,vs,r,rfl,λb u e=>hH b u (t1.s b u e),AA,r1,by rw [ha.len _ _ e1];exact hn,e2,?_⟩
  cases r with
  |ok x'=>exact λG' H' ch=>⟨rfl,x',G',rfl,ch⟩
  |error c=>exact λG' H' lf=>⟨c,G',rfl,rfl,lf⟩
 have r2:yN (V.ref a::vs) (Value.ref a::us):=.cons rfl rv
 have hl:(Value.ref a::us ++ []).length=ps.length:=by
  have e:=r2.length
  rw [FO.len _ _ _ _ hq] at e
  rw [zVZ];exact e.symm
 subst hav
 subst hdv
 have bt:=hb _ (Value.ref (s1.heap.objs.size+1)::us) I2.kIn (by simpa using hl)
 rw [zVZ] at bt
 refine wpAny_call (zN2 (f:=fi) I1.kIn M.makes M.init (zWm.mp M.fn) (codeAny_mono (FO.run _ X.stack _ _ ⟨Value.ref (s1.heap.objs.size+1)::us,[]⟩ (Value.ref (s1.heap.objs.size+1)::us) _ _ _ (hr.make C us [])
  (I2.env0.make C us []) bt r2 hq) λrr s' hq'=>?_))
 cases rr with
 |error u=>
  obtain ⟨y,T,C0,H',rfl,os,bare,un,hok',fly,ny,nT,hy,hT,c,G',rfl,eC,lf⟩:=hq'
  cases eC
  have J:Inv X pins σ H' s':=I2.call' os un hok' bare λb m=>absurd m (by simp)
  have t2:zd G1 H1 G' H':=⟨lf.g,λb u e=>lf.h b u (hH b u e) (λm=>by rw [low b m] at e;cases e),lf.gh,λb u e n=>(lf.fr b u e n).elim (low2 b) (low b)⟩
  exact hbad c rfl G' H' s' y T (t1.trans t2) J fly (zT0 I2 hex ny hy) (zT0 I2 hex nT hT)
 |ok fw=>
  cases fw with
  |ret u=>
   obtain ⟨v,H',I3,rv',ev,x',G',rfl,ch⟩:=I2.after hq'
   subst ev
   have t2:zd G1 H1 G' H':=⟨ch.g,λb u e=>ch.h b u (hH b u e) (λm=>by rw [low b m] at e;cases e),ch.gh,λb u e n=>(ch.fr b u e n).elim (low2 b) (low b)⟩
   exact ⟨rv',hok x' rfl _ G' H' s' (t1.trans t2) ch.at_ (λc m=>up c ((ch.new c m).elim (low c) (low2 c))) I3⟩
  |next=>exact False.elim hq'
  |brk=>exact False.elim hq'
  |cont=>exact False.elim hq'
theorem zOu (i:Nat) (cc:Nat) {pos':Pos} (M:Mk X.K C fi) (FO:zCe X.prog X.w X.K X.mg X.base (CXE X.prog X.w) k fi fd ps (zUB X.K κ F n)) (hb:zAx X.K fd ps []) (hr:zAB (k+1) X.A) (hg:Gl X x) (hm:X.mg x=some (.ref C)) (hn:(e::es).length+1=n) (ha:SA X.nox (e::es) fl) (hex:X.ex = [])
  (hC:zRZ X.K (κ cc)) (hgc:Gl X xc) (hmc:X.mg xc=some (.ref (κ cc))) (hst:X.stack=X.env::X.outer) (hfr:X.env.frame=some X.env.locals)
  (hh:∀ y,SSs (hdX X y).nox (b₀::suite) Fh) (hN:X.N.Nodup) (hi:X.N[i]?=some y) (hy:Loc X.env.scope y) (hs:swapsWith (.Call (.Name x p) (e::es) [] cpos) (some (.Name y pos')) epos.line X.env=pure false:=by rfl)
  (hf:X.fn y=true\/X.env.scope.names.lookup y=some .local:=by first|exact .inl rfl|exact .inr rfl|assumption) (hdb:(x == ("__debug__" : Str))=false:=by decide) (hdc:(xc == ("__debug__" : Str))=false:=by decide)
  (he:starEach (e::es) X.env=(false,eval e X.env)::starEach es X.env:=by rfl) (hpl:(backTo cpos (starEach es X.env)).any (·.1)=false:=by rfl) :
  SS X (.Try [.Assign [.Name y pos'] (.Call (.Name x p) (e::es) [] cpos) epos] [.ExceptHandler (some (.Name xc np)) none (b₀::suite) hpos] [] [] pos) (zF1 C i fl F cc Fh):=by
 intro pins s σ H D I h
 obtain ⟨G0,H0,G,ρ,o,st,ef,k⟩:=h
 obtain ⟨ds,e1,ef1⟩:=zUs.mp ef
 obtain ⟨r,e2,ef2⟩:=zUs.mp ef1
 refine wpAny_Try_except (wpAny_execs_cons (wpAny_Assign_Name (zR5 M FO hb hr hg hm hn ha hex I st.bs.gh st.er e1 e2 (λx' hx a G' H' s' t At' nw J=>?_) (λc hc G' H' s' y T t J fly ny nT=>?_) hdb he hpl) hs))
 ·subst hx
  cases ef2
  exact zGM J hN hi hy (v:=.ref a) rfl (λs2 I2=>zWi (zWi ⟨_,H',I2,k _ G' H' (st.setNew t (w:=.o none x') rfl ⟨⟨At'.rep,At'.nd⟩,λ_ z=>by cases z⟩ λc m=>⟨nw c m,At'.fr c m⟩)⟩)) hf
 ·subst hc
  simp only at ef2
  split at ef2
  ·rename_i hcc
   subst hcc
   exact zT1 hC hgc hmc hst hfr J fly ny nT (hh y) ⟨G0,H0,G',ρ,o,st.step t,ef2,k⟩ hdc
  ·cases ef2
end
end RD
section
local macro_rules | `(tactic| exists $es,*) => let l := ("RD.gV RD.gR RD.zR RD.zO RD.zDY RD.zAC RD.sq RD.sIf RD.bB RD.b1 RD.b2 RD.b3 RD.b1F RD.b2F RD.b3S RD.zOE RD.zLH RD.gL RD.zOG RD.vOr RD.vNot RD.zRG RD.bOr RD.zRH RD.zLI RD.truD RD.asB RD.asI RD.oI RD.zB RD.qI RD.qr RD.zP4 RD.zQB RD.iL RD.iT RD.iR2 RD.iEn RD.zDb RD.asL RD.asT RD.zFV RD.zME RD.frz RD.qN RD.zKk RD.zNt RD.zHb RD.zOL RD.zP9 RD.zEF RD.zIO RD.zQA RD.zTk RD.ltO RD.gtO RD.dIn RD.zOT RD.zOU RD.zOV RD.allO RD.anyO RD.zTu RD.slD RD.slF zUw Option.bind_none zVG Option.map_none zVS zVf List.getElem?_nil zWP zXR zUv zVC zUx zV7 zVy zWA zVZ List.replicate_succ List.replicate_zero Nat.reduceAdd Nat.reduceSub Nat.reduceLeDiff Nat.reduceLT zVp zV8 ite_true ite_false true_and and_true zVu zW6 zV2 Bool.not_true Bool.not_false List.range_zero Int.toNat_zero zU4 zU9 zXC Nat.zero_add Int.zero_add reduceIte reduceCtorEq Int.reduceLT Int.reduceLE Int.reducePow Int.reduceNeg Int.reduceMul Int.reduceAdd Int.reduceSub Int.reduceToNat true_or or_true and_self or_self Bool.and_self Bool.true_and Bool.and_true Bool.true_or Bool.or_true Bool.false_and Bool.false_or Nat.reduceMul Nat.reducePow Int.reduceEq Nat.reduceEqDiff Int.natCast_zero Int.cast_ofNat_Int Int.ofNat_eq_natCast RD.zi RD.zS RD.zt RD.depL RD.zK RD.gM RD.inR RD.iR1 RD.rng".splitOn " ").toArray.map (fun s => (⟨Lean.mkIdent s.toName⟩ : Lean.Term)) ++ es.getElems; `(tactic| simp (config := { decide := true }) only [$[$l:term],*])
local macro_rules | `(tactic| exists 0, $es,*) => let l := ("RD.zc RD.dep RD.eqO RD.eqD RD.gN RD.zP RD.eqL RD.gNl RD.neO RD.zo RD.gT RD.gCs".splitOn " ").toArray.map (fun s => (⟨Lean.mkIdent s.toName⟩ : Lean.Term)) ++ es.getElems; `(tactic| exists $[$l:term],*)
namespace LG
open PySem L2 RD
abbrev zDf:List Str:=["_law_script","_law_k"]
def zCJ:ROo:=(sq (sIf (bB (b2 (gR 1) (b1 (gR 0) zEF) ltO)) (zAC (b2 (gR 0) (gR 1) ixO)) (λρ=>some (Out.nx ρ))) (zAC (zR 0)))
def z7 (ds:List D):Option D:=zDY zDf zCJ ds
abbrev zEy:List Str:=["_law_cell_here","_law_prime","_law_many"]
def zEz:ROo:=(zAC (b2 (b2 (b2 (gR 0) (zR 48271) zNt) (gR 1) zHb) (gR 2) zHb))
def zT (ds:List D):Option D:=zDY zEy zEz ds
def zBx:ROo:=(sq (qI 5 (λρ=>((zB (gV 0) (zB (zR 9883) (zB (b2 (b1 (gR 4) zEF) (zR 1) qN) zO))) ρ).bind zT)) (zAC (b2 (b2 (b3S (gR 4) (λ_=>some none) (oI (gV 5)) slD) (gR 3) qN) (b3S (gR 4) (oI (gV 5)) (λ_=>some none) slD) qN)))
def qh:ROo:=(sq (qI 4 (b1 (λρ=>((zK 1 (iR1 (zB (λρ=>((zB (gV 0) (zB (zR 9887) (zB (zR 3) zO))) ρ).bind zT) zO)) (gN 6) (λ_=>some true) (b2 (gR 2) (λρ=>((zB (b2 (gR 0) (b2 (zR 3) (gR 6) zNt) qN) (zB (zR 9941) (zB (zR 26) zO))) ρ).bind zT) ixO)) ρ).map D.lst) (zKn ""))) zBx)
abbrev zDg:List Str:=["_law_cell_here","_law_j","_law_letters","_law_sign","_law_tail","_law_at"]
def zDh:ROo:=(sq (qI 2 (λ_=>some (D.str "abcdefghijklmnopqrstuvwxyz"))) (sq (qI 3 (b2 (gR 2) (b2 (b2 (λρ=>((zB (gV 0) (zB (zR 9923) (zB (zR 26) zO))) ρ).bind zT) (b2 (zR 9) (gR 1) zNt) qN) (zR 26) zHb) ixO)) qh))
def yM (ds:List D):Option D:=zDY zDg zDh ds
abbrev zBN:List Str:=["_law_cell_here","_law_many"]
def q8:ROo:=(zAC (zOG (b2 (b2 (gR 0) (zR 4) zHb) (zR 2) eqO) (b2 (gR 1) (zR 2) gtO)))
def yS (ds:List D):Option D:=zDY zBN q8 ds
abbrev zDi:List Str:=["_law_cell_here","_law_many","_law_rows"]
def zDj:ROo:=(sq (qI 2 (b2 (b2 (gR 1) (zR 2) zKk) (b1 (λρ=>((zB (gV 0) (zB (gV 1) zO)) ρ).bind yS) zTk) qN)) (zAC (b2 (b2 (zR 1) (b2 (b2 (zR 1) (λρ=>((zB (gV 0) (zB (zR 9949) (zB (zR 3) zO))) ρ).bind zT) qN) (gR 2) zNt) qN) (b1 (b2 (λρ=>((zB (gV 0) (zB (zR 9931) (zB (zR 3) zO))) ρ).bind zT) (zR 0) gtO) zTk) qN)))
def zA4 (ds:List D):Option D:=zDY zDi zDj ds
def zDk:ROo:=(sq (qI 12 (b2 (λρ=>((zB (b2 (b2 (gR 10) (gR 11) qN) (zR 1) qN) (zB (b2 (gR 1) (gR 8) ixO) zO)) ρ).map D.lst) (b1 (b2 (gR 11) (b2 (gR 7) (zR 1) zKk) eqO) zTk) ixO)) (zFV 5 (λρ=>((zB (λ_=>some (D.str "tell")) (zB (b2 (gR 3) (zR 0) ixO) (zB (b2 (gR 3) (gR 11) ixO) (zB (λρ=>((zB (λρ=>((zB (gV 9) (zB (gV 12) zO)) ρ).map D.tup) zO) ρ).map D.tup) zO)))) ρ).map D.tup)))
def zDl:ROo:=(sq (qI 10 (b2 (b2 (gR 0) (zR 1) qN) (b2 (gR 8) (gR 7) zNt) qN)) (sq (zFV 6 (λρ=>((zB (gV 9) (zB (gV 10) zO)) ρ).map D.tup)) (sq (zFV 5 (λρ=>((zB (λ_=>some (D.str "tell")) (zB (gV 2) (zB (b2 (gR 3) (zR 1) ixO) (zB (λρ=>((zB (λρ=>((zB (b2 (gR 4) (zR 0) ixO) (zB (b2 (gR 10) (zR 1) qN) zO)) ρ).map D.tup) zO) ρ).map D.tup) zO)))) ρ).map D.tup)) (zi (iR2 (zB (zR 1) (zB (gV 7) zO))) (gN 11) zDk))))
abbrev zAP:List Str:=["_law_start","_law_goals","_law_one","_law_others","_law_words","_law_rows","_law_choices","_law_size_here","_law_j","_law_word_here","_law_at","_law_k","_law_after"]
def zBy:ROo:=(sq (qr 5 zO) (sq (qr 6 zO) (sq (qI 7 (b1 (gR 3) zEF)) (sq (zi (iEn (gV 4)) (gT 2 (gCs (gN 8) (gCs (gN 9) gNl))) zDl) (zAC (λρ=>((b2F (λρ=>((zB (λρ=>((zB (λ_=>some (D.str "tell")) (zB (gV 2) (zB (b2 (gR 3) (zR 0) ixO) (zB (b1 (gR 6) zIO) zO)))) ρ).map D.tup) zO) ρ).map D.lst) (gR 5) zt) ρ).map D.lst))))))
def zk (ds:List D):Option D:=zDY zAP zBy ds
def zE0:ROo:=(zFV 7 (λρ=>((zB (λ_=>some (D.str "tell")) (zB (gV 4) (zB (b2 (gR 5) (b2 (gR 12) (zR 1) qN) ixO) (zB (λρ=>((zB (λρ=>((zB (gV 10) (zB (b2 (gR 11) (b2 (gR 12) (zR 1) qN) ixO) zO)) ρ).map D.tup) zO) ρ).map D.tup) zO)))) ρ).map D.tup))
def zE1:ROo:=(sq (qI 11 (λρ=>((b2F (λρ=>((zK 1 (iR1 (zB (b2 (gR 2) (zR 2) zKk) zO)) (gN 13) (λ_=>some true) (b2 (b2 (b2 (gR 1) (zR 1) qN) (b2 (gR 9) (b2 (gR 2) (zR 2) zKk) zNt) qN) (gR 13) qN)) ρ).map D.lst) (λρ=>((zB (b2 (gR 3) (gR 9) ixO) zO) ρ).map D.lst) zt) ρ).map D.lst)) (sq (zFV 8 (λρ=>((zB (gV 10) (zB (b2 (gR 11) (zR 0) ixO) zO)) ρ).map D.tup)) (zi (iR1 (zB (b2 (gR 2) (zR 2) zKk) zO)) (gN 12) zE0)))
def zBz:ROo:=(sq (qr 7 zO) (sq (qr 8 zO) (sq (zi (iEn (gV 6)) (gT 2 (gCs (gN 9) (gCs (gN 10) gNl))) zE1) (zAC (λρ=>((b2F (λρ=>((zB (λρ=>((zB (λ_=>some (D.str "tell")) (zB (gV 4) (zB (b2 (gR 5) (zR 0) ixO) (zB (b1 (gR 8) zIO) zO)))) ρ).map D.tup) zO) ρ).map D.lst) (gR 7) zt) ρ).map D.lst)))))
def yB:ROo:=(sq (sIf (zLI (λρ=>((zB (gV 0) (zB (gV 2) zO)) ρ).bind yS)) (zAC (λρ=>((zB (gV 1) (zB (gV 3) (zB (gV 4) (zB (gV 5) (zB (gV 6) zO))))) ρ).bind zk)) (λρ=>some (Out.nx ρ))) zBz)
def zl:ROo:=(sq (qI 6 (λρ=>((b1F (λρ=>((zK 1 (iR1 (zB (b2 (zR 1) (λρ=>((zB (gV 0) (zB (zR 9949) (zB (zR 3) zO))) ρ).bind zT) qN) zO)) (gN 13) (λ_=>some true) (λρ=>((zB (gV 0) (zB (gV 13) zO)) ρ).bind yM)) ρ).map D.lst) zC1) ρ).map D.lst)) yB)
abbrev yt:List Str:=["_law_cell_here","_law_start","_law_many","_law_goals","_law_one","_law_others","_law_words","_law_rows","_law_choices","_law_j","_law_word_here","_law_afters","_law_k"]
def zDA:ROo:=(sq (qI 4 (λρ=>((zB (gV 0) (zB (zR 9929) (zB (gV 2) zO))) ρ).bind zT)) (sq (qI 5 λρ=>((zK 1 (iR1 (zB (b2 (gR 2) (zR 1) zKk) zO)) (gN 13) (λ_=>some true) (b2 (b2 (b2 (gR 4) (zR 1) qN) (b2 (b2 (gR 13) (λρ=>((zB (gV 0) (zB (zR 9901) (zB (b2 (gR 2) (zR 1) zKk) zO))) ρ).bind zT) qN) (b2 (gR 2) (zR 1) zKk) zHb) qN) (gR 2) zHb)) ρ).map D.lst) zl))
def zY (ds:List D):Option D:=zDY yt zDA ds
abbrev zAQ:List Str:=["_law_cell_here","_law_here","_law_many","_law_goal","_law_one","_law_other","_law_words"]
def yq:ROo:=(sq (qI 4 (λρ=>((zB (gV 0) (zB (zR 9871) (zB (gV 2) zO))) ρ).bind zT)) (sq (qI 5 (b2 (b2 (b2 (gR 4) (zR 1) qN) (λρ=>((zB (gV 0) (zB (zR 9859) (zB (b2 (gR 2) (zR 1) zKk) zO))) ρ).bind zT) qN) (gR 2) zHb)) (sq (qI 6 (λρ=>((b1F (λρ=>((zB (λρ=>((zB (b2 (gR 0) (zR 1) qN) (zB (zR 0) zO)) ρ).bind yM) (zB (λρ=>((zB (b2 (gR 0) (zR 1) qN) (zB (zR 1) zO)) ρ).bind yM) zO)) ρ).map D.lst) zC1) ρ).map D.lst)) (sq (sIf (bB (b2 (λρ=>((zB (gV 0) (zB (zR 9931) (zB (zR 3) zO))) ρ).bind zT) (zR 1) eqO)) (zAC (λρ=>((zB (λ_=>some (D.str "tell")) (zB (gV 4) (zB (gV 5) (zB (λρ=>((zB (λρ=>((zB (b2 (gR 6) (zR 0) ixO) (zB (gV 3) zO)) ρ).map D.tup) zO) ρ).map D.tup) zO)))) ρ).map D.tup)) (λρ=>some (Out.nx ρ))) (zAC (λρ=>((zB (λ_=>some (D.str "tell")) (zB (gV 4) (zB (gV 5) (zB (λρ=>((zB (λρ=>((zB (b2 (gR 6) (zR 0) ixO) (zB (b2 (λρ=>((zB (gV 1) (zB (gV 3) zO)) ρ).map D.lst) (b2 (gR 0) (zR 2) zHb) ixO) zO)) ρ).map D.tup) (zB (λρ=>((zB (b2 (gR 6) (zR 1) ixO) (zB (b2 (λρ=>((zB (gV 3) (zB (gV 1) zO)) ρ).map D.lst) (b2 (gR 0) (zR 2) zHb) ixO) zO)) ρ).map D.tup) zO)) ρ).map D.tup) zO)))) ρ).map D.tup))))))
def yK (ds:List D):Option D:=zDY zAQ yq ds
def yu:ROo:=(zFV 3 (b2 (b2 (gR 3) (b1 (zR 1) zP9) ixO) (λρ=>((zB (gV 4) (zB (gV 1) zO)) ρ).bind zA4) qN))
def qS:ROo:=(sq (qr 7 (zK 1 (iR1 (zB (zR 3) zO)) (gN 9) (λ_=>some true) (b2 (gR 3) (λρ=>((zB (b2 (gR 4) (b2 (zR 7) (gR 9) zNt) qN) (zB (zR 9907) (zB (b1 (gR 3) zEF) zO))) ρ).bind zT) ixO))) (sq (qI 8 (b2 (gR 7) (zR 0) ixO)) (sq (sIf (bB (b2 (λρ=>((zB (gV 4) (zB (zR 9931) (zB (zR 3) zO))) ρ).bind zT) (zR 0) gtO)) (zME 7 (zR 0) (b2 (b2 (gR 3) (b2 (gR 6) (zR 1) qN) ixO) (zR 1) zKk)) (λρ=>some (Out.nx ρ))) (λρ=>(sq (qr 5 (b2F (gR 5) (λρ=>((zB (gV 4) (zB (b2 (gR 3) (gR 6) ixO) (zB (gV 1) (zB (gV 7) zO)))) ρ).bind zY) zt)) (sIf (bB (b2 (λρ=>((zB (gV 4) (zB (zR 9931) (zB (zR 3) zO))) ρ).bind zT) (zR 0) gtO)) (zFV 5 (λρ=>((zB (gV 4) (zB (b2 (b2 (gR 3) (b2 (gR 6) (zR 1) qN) ixO) (zR 1) zKk) (zB (gV 1) (zB (gV 8) zO)))) ρ).bind yK)) (λρ=>some (Out.nx ρ)))) (frz 7 ρ)))))
abbrev zCm:List Str:=["_law_script","_law_many","_law_cells","_law_starts","_law_cell_here","_law_places","_law_k","_law_goals","_law_after"]
def zBO:ROo:=(sq (qI 1 (b2 (zR 2) (λρ=>((zB (λρ=>((zB (gV 0) (zB (zR 0) zO)) ρ).bind z7) (zB (zR 9973) (zB (zR 3) zO))) ρ).bind zT) qN)) (sq (qI 2 λρ=>((zK 1 (iR1 (zB (b2 (zR 1) (λρ=>((zB (λρ=>((zB (gV 0) (zB (zR 0) zO)) ρ).bind z7) (zB (zR 9967) (zB (zR 3) zO))) ρ).bind zT) qN) zO)) (gN 9) (λ_=>some true) (λρ=>((zB (gV 0) (zB (b2 (zR 1) (gR 9) qN) zO)) ρ).bind z7)) ρ).map D.lst) (sq (qr 3 (zB (zR 0) zO)) (sq (zi (iL (gV 2)) (gN 4) yu) (sq (qr 5 zO) (sq (zi (iEn (gV 2)) (gT 2 (gCs (gN 6) (gCs (gN 4) gNl))) qS) (zAC (λρ=>((zB (gV 1) (zB (b1 (λρ=>((b2F (gR 5) (λρ=>((zB (λρ=>((zB (λ_=>some (D.str "end")) zO) ρ).map D.tup) zO) ρ).map D.lst) zt) ρ).map D.lst) zIO) zO)) ρ).map D.tup))))))))
def qa (ds:List D):Option D:=zDY zCm zBO ds
def mix (c p m:Int):Int:=c*48271%p%m
theorem yd (c p:Int) {m:Int} (h:0<m):0<=mix c p m:=zWU _ (by omega)
theorem ye (c p:Int) {m:Int} (h:0<m):mix c p m<m:=zWN _ h
theorem qi {c p m:Int} (hp:0<p) (hm:0<m):zT [.int c,.int p,.int m]=some (.int (mix c p m)):=by
 exists 0,zT,zEz,hp,hm,mix,atI,ixN,ixO
theorem zR6 {ns:List Int} {k:Int} (h0:0<=k) (h:k<ns.length):atI (ns.map D.int) k=some (.int (ns.getD k.toNat 0)):=by
 have h2:k.toNat<ns.length:=by omega
 simp [atI,ixN,h0,h,h2]
theorem zMl {ns:List Int} {k:Int} (h0:0<=k):z7 [.lst (ns.map D.int),.int k]=some (.int (ns.getD k.toNat 0)):=by
 by_cases h:k<ns.length
 ·exists 0,z7,zCJ,h,zR6 h0 h,ixO
 ·have h2:ns.getD k.toNat 0=0:=by
   have:ns[k.toNat]?=none:=by simp;omega
   simp [List.getD,this]
  exists 0,z7,zCJ,h,h2,ixO
def zCn (c m:Int):Bool:=decide (c%4=2) && decide (2<m)
theorem zMm {c m:Int}:yS [.int c,.int m]=some (.bl (zCn c m)):=by
 by_cases e:c%4=2
 ·simp [yS,q8,zDY,zAC,b2,zLH,zHb,zOG,eqO,dep,eqD,asB,gtO,e,zCn]
 ·simp [yS,q8,zDY,zAC,b2,zLH,zHb,zOG,eqO,dep,eqD,asB,gtO,e,zCn]
def lc (k:Int):Nat:=(97+k).toNat
theorem zR7 {i:Int} (h0:0<=i) (h1:i<26):atI (Str.ofString "abcdefghijklmnopqrstuvwxyz").cps.toList i=some (lc i):=by
 have q:∀ k:Fin 26,atI (Str.ofString "abcdefghijklmnopqrstuvwxyz").cps.toList (k.1:Int)=some (lc (k.1:Int)):=by decide +kernel
 have q:=q ⟨i.toNat,by omega⟩
 rwa [show ((i.toNat:Nat):Int)=i from Int.toNat_of_nonneg h0] at q
theorem zIr:(Str.ofString "abcdefghijklmnopqrstuvwxyz").length<=1000000:=by decide +kernel
theorem zE2 {i:Int} (h0:0<=i) (h1:i<26):ixO (.str (Str.ofString "abcdefghijklmnopqrstuvwxyz")) (.int i)=some (.str ⟨#[lc i]⟩):=by
 simp only [ixO,zIr,zVp,zR7 h0 h1,zVG]
theorem zR8 {i:Int} (h0:0<=i) (h1:i<26):97<=lc i/\lc i<=122:=by unfold lc;omega
def sg (c j:Int):Nat:=lc ((mix c 9923 26+9*j)%26)
theorem sg_ok (c j:Int):97<=sg c j/\sg c j<=122:=zR8 (zWU _ (by decide)) (zWN _ (by decide))
theorem emp:(Str.ofString "")=⟨#[]⟩:=by decide +kernel
theorem pick (l:List Nat):∀ (k i:Nat),i+k<=l.length->((List.range k).map (λm=>i+m)).filterMap (λj=>l.toArray[j]?)=(l.drop i).take k
 |0,i,_=>by simp
 |k+1,i,h=>by
  have hi:i<l.length:=by omega
  have e:(List.range (k+1)).map (λm=>i+m)=i::(List.range k).map (λm=>i+1+m):=by
   rw [List.range_succ_eq_map,zUx,zVt]
   congr 1
   apply zVx
   intro a _
   simp only [Function.comp]
   omega
  rw [e,zWB,pick l k (i+1) (by omega)]
  have e2:l.toArray[i]?=some l[i]:=by simp [hi]
  rw [e2,zWR hi,List.take_succ_cons]
theorem zHy (a:Int) (n i:Nat) (h:a=(i:Int)):(List.range n).map (λ(k:Nat)=>(a+1*(k:Int)).toNat)=(List.range n).map (λm=>i+m):=by
 apply zVx
 intro k _
 subst h
 omega
theorem zF5 (l:List Nat) (n:Nat) (h:n<=l.length):Txt.slice ⟨l.toArray⟩ none (some (n:Int))=⟨(l.take n).toArray⟩:=by
 have e1:Builtin.Str.strSliceIndices none (some (n:Int)) 1 l.length=(List.range n).map (λm=>0+m):=by
  unfold Builtin.Str.strSliceIndices sliceRange
  have h1:(1:Int)>0:=by decide
  have h2:¬ ((n:Int)<0):=by omega
  have h3:max 0 (min (n:Int) (l.length:Int))=(n:Int):=by omega
  simp only [h1,zVp,h2,zV8,h3]
  have h4:(if (0:Int)<(n:Int) then ((n:Int)-0+1-1)/1 else 0).toNat=n:=by
   split
   ·rw [Int.ediv_one];omega
   ·omega
  rw [h4]
  exact zHy 0 n 0 rfl
 unfold Txt.slice
 have e0:(⟨l.toArray⟩:Str).length=l.length:=by simp [Str.length]
 rw [e0,e1]
 split
 ·rename_i q
  have:n=l.length:=by simpa using q
  subst this
  rw [zXJ]
 ·have:=pick l n 0 (by omega)
  rw [List.drop_zero] at this
  exact zVw (λx=>(⟨x.toArray⟩:Str)) this
theorem zKv (l:List Nat) (n:Nat) (h:n<=l.length):Txt.slice ⟨l.toArray⟩ (some (n:Int)) none=⟨(l.drop n).toArray⟩:=by
 have e1:Builtin.Str.strSliceIndices (some (n:Int)) none 1 l.length=(List.range (l.length-n)).map (λm=>n+m):=by
  unfold Builtin.Str.strSliceIndices sliceRange
  have h1:(1:Int)>0:=by decide
  have h2:¬ ((n:Int)<0):=by omega
  have h3:max 0 (min (n:Int) (l.length:Int))=(n:Int):=by omega
  simp only [h1,zVp,h2,zV8,h3]
  have h4:(if (n:Int)<(l.length:Int) then ((l.length:Int)-(n:Int)+1-1)/1 else 0).toNat=l.length-n:=by
   split
   ·rw [Int.ediv_one];omega
   ·omega
  rw [h4]
  exact zHy (n:Int) _ n rfl
 unfold Txt.slice
 have e0:(⟨l.toArray⟩:Str).length=l.length:=by simp [Str.length]
 rw [e0,e1]
 split
 ·rename_i q
  have:n=0:=by
   have q':l.length-n=l.length:=by simpa using q
   cases l with
   |nil=>simpa using h
   |cons _ _=>simp at q';omega
  subst this
  rfl
 ·have:=pick l (l.length-n) n (by omega)
  have e3:(l.drop n).take (l.length-n)=l.drop n:=by
   rw [<- zXH];exact zXJ
  rw [e3] at this
  exact zVw (λx=>(⟨x.toArray⟩:Str)) this
theorem zMn (a b:List Nat):(⟨a.toArray⟩:Str)++(⟨b.toArray⟩:Str)=⟨(a++b).toArray⟩:=by
 show Str.append _ _=_
 simp [Str.append]
theorem zIs (a:List Nat):(⟨a.toArray⟩:Str).length=a.length:=by simp [Str.length]
theorem join0:Txt.join ⟨#[]⟩ []=⟨([]:List Nat).toArray⟩:=rfl
theorem join1 (A:Nat):Txt.join ⟨#[]⟩ [⟨#[A]⟩]=⟨[A].toArray⟩:=rfl
theorem join2 (A B:Nat):Txt.join ⟨#[]⟩ [⟨#[A]⟩,⟨#[B]⟩]=⟨[A,B].toArray⟩:=rfl
theorem zIt (A:Nat):(⟨#[A]⟩:Str).length=1:=rfl
theorem zIu:(⟨#[]⟩:Str).length=0:=rfl
theorem zOv (A:Nat):(⟨#[A]⟩:Str)=⟨[A].toArray⟩:=rfl
theorem zMo (c:Int):∃ T:List Nat,(∀ x∈T,97<=x/\x<=122)/\T.length<=2/\∀ s1 s3 s4 s5:Sl,qh [.v (.int c),s1,.v (.str (Str.ofString "abcdefghijklmnopqrstuvwxyz")),s3,s4,s5]=zBx [.v (.int c),s1,.v (.str (Str.ofString "abcdefghijklmnopqrstuvwxyz")),s3,.v (.str ⟨T.toArray⟩),s5]:=by
 have h1:=yd c 9887 (m:=3) (by decide)
 have h2:=ye c 9887 (m:=3) (by decide)
 have g0:=zE2 (yd (c+0) 9941 (m:=26) (by decide)) (ye (c+0) 9941 (m:=26) (by decide))
 have g1:=zE2 (yd (c+3) 9941 (m:=26) (by decide)) (ye (c+3) 9941 (m:=26) (by decide))
 have o0:=zR8 (yd (c+0) 9941 (m:=26) (by decide)) (ye (c+0) 9941 (m:=26) (by decide))
 have o1:=zR8 (yd (c+3) 9941 (m:=26) (by decide)) (ye (c+3) 9941 (m:=26) (by decide))
 have r2:List.range 2 = [0,1]:=rfl
 have cs:mix c 9887 3=0\/mix c 9887 3=1\/mix c 9887 3=2:=by omega
 rcases cs with e|e|e
 ·exact ⟨[],by simp,by simp,λs1 s3 s4 s5=>by exists 0,qh,qi,e,r2,zKn,zGa,emp,join0,zIt,zIu,List.sum_cons,List.sum_nil,zV0,List.range_zero⟩
 ·exact ⟨[lc (mix (c+0) 9941 26)],by simpa using o0,by simp,λs1 s3 s4 s5=>by exists 0,qh,qi,e,r2,zKn,zGa,emp,join1,zIt,zIu,List.sum_cons,List.sum_nil,zV0,zV4,g0⟩
 ·exact ⟨[lc (mix (c+0) 9941 26),lc (mix (c+3) 9941 26)],by simpa using And.intro o0 o1,by simp,λs1 s3 s4 s5=>by exists 0,qh,qi,e,r2,zKn,zGa,emp,join2,zIt,zIu,List.sum_cons,List.sum_nil,zV0,zVq,g0,g1⟩
theorem zR9 (c:Int):∃ pre post:List Nat,(∀ x∈pre++post,97<=x/\x<=122)/\pre.length+post.length<=2/\∀ j:Int,yM [.int c,.int j]=some (.str ⟨(pre++sg c j::post).toArray⟩):=by
 obtain ⟨T,o,q1,ht⟩:=zMo c
 have h1:=yd c 9883 (m:=(T.length:Int)+1) (by omega)
 have h2:=ye c 9883 (m:=(T.length:Int)+1) (by omega)
 obtain ⟨n,en⟩:∃ n:Nat,mix c 9883 ((T.length:Int)+1)=(n:Int):=⟨(mix c 9883 ((T.length:Int)+1)).toNat,by omega⟩
 have hn:n<=T.length:=by omega
 have hs:∀ j:Int,ixO (.str (Str.ofString "abcdefghijklmnopqrstuvwxyz")) (.int ((mix c 9923 26+9*j)%26))=some (.str ⟨#[sg c j]⟩):=λj=>zE2 (zWU _ (by decide)) (zWN _ (by decide))
 have e1:=zF5 T n hn
 have e2:=zKv T n hn
 have q2:T.length<=1000000:=by omega
 have q3:(0:Int)<(T.length:Int)+1:=by omega
 have l1:(T.take n).length<=999999:=by simp;omega
 have l2:(T.take n).length+1+(T.drop n).length<=1000000:=by simp;omega
 refine ⟨T.take n,T.drop n,by rwa [List.take_append_drop],by simp;omega,λj=>?_⟩
 exists 0,yM,zDh,zBx,ht,qi,hs,zIs,en,e1,e2,zOv,zMn,q2,q3,l1,l2,zVY,zVr
def Lt (a b:Str):Prop:=ltS a b=true
theorem Lt.def {a b:Str}:Lt a b↔a.cps.toList<b.cps.toList:=by simp [Lt,ltS]
theorem zMp {a b:Str} (h:a.cps.toList=b.cps.toList):a=b:=by
 cases a;cases b;simp only [Str.mk.injEq];exact Array.toList_inj.mp h
theorem Lt.trans {a b c:Str} (h:Lt a b) (k:Lt b c):Lt a c:=by
 rw [Lt.def] at *;exact List.lt_trans h k
theorem Lt.irrefl {a:Str}:¬ Lt a a:=by rw [Lt.def];exact List.lt_irrefl _
theorem Lt.total {a b:Str} (h:¬ Lt b a) (n:a≠b):Lt a b:=by
 rw [Lt.def] at *
 rcases List.le_total (l₁:=a.cps.toList) (l₂:=b.cps.toList) with q|q
 ·rcases Classical.em (a.cps.toList<b.cps.toList) with z|z
  ·exact z
  ·exact absurd (zMp (List.le_antisymm q (zWr.mp z))) n
 ·exact absurd (zMp (List.le_antisymm (zWr.mp h) q)) n
theorem Lt.ne {a b:Str} (h:Lt a b):a≠b:=λe=>by subst e;exact Lt.irrefl h
abbrev ya (l:List Str):Prop:=l.Pairwise Lt
theorem zGl {x y:Str}:∀ {l:List Str},y∈zIg x l↔y=x\/y∈l
 | []=>by simp [zIg]
 |z::l=>by
  simp only [zIg]
  split
  ·simp only [zU1,zGl (l:=l)]
   constructor
   ·rintro (h|h|h)<;>simp [h]
   ·rintro (h|h|h)<;>simp [h]
  ·simp
theorem zE3 {x:Str}:∀ {l:List Str},ya l->(∀ y∈l,x≠y)->ya (zIg x l)
 | [],_,_=>by simp [zIg]
 |z::l,h,n=>by
  obtain ⟨h1,h2⟩:=zVI.mp h
  simp only [zIg]
  split
  ·rename_i q
   refine zVI.mpr ⟨λy hy=>?_,zE3 h2 λy hy=>n y (zUu _ hy)⟩
   rcases zGl.mp hy with rfl|hy
   ·exact q
   ·exact h1 y hy
  ·rename_i q
   have hz:Lt x z:=Lt.total (by simpa [Lt] using q) (n z zU0)
   exact zVI.mpr ⟨λy hy=>by
    rcases zU1.mp hy with rfl|hy
    ·exact hz
    ·exact hz.trans (h1 y hy),h⟩
theorem zA5 {y:Str}:∀ {l:List Str},y∈zAn l↔y∈l
 | []=>by simp [zAn]
 |x::l=>by simp only [zAn,zGl,zA5 (l:=l),zU1]
theorem zJ1 {x:Str}:∀ {l:List Str},(zIg x l).length=l.length+1
 | []=>rfl
 |z::l=>by simp only [zIg];split<;>simp [zJ1 (l:=l)]
theorem zA6:∀ {l:List Str},(zAn l).length=l.length
 | []=>rfl
 |x::l=>by simp only [zAn,zJ1,zA6 (l:=l),zUv]
theorem qk:∀ {l:List Str},l.Nodup->ya (zAn l)
 | [],_=>by simp [zAn]
 |x::l,h=>by
  obtain ⟨h1,h2⟩:=zVa.mp h
  exact zE3 (qk h2) λy hy e=>h1 (by subst e;exact zA5.mp hy)
theorem zOw (l:List Str):RD.zGa (l.map D.str)=some l:=by
 induction l with
 |nil=>rfl
 |cons x xs ih=>simp [RD.zGa,ih]
theorem zDB {l:List Str} (h:l.length<64):zC1 (.lst (l.map D.str))=some ((zAn l).map D.str):=by
 cases l with
 |nil=>rfl
 |cons x xs=>
  have e:=zOw (x::xs)
  simp only [zUx] at e
  simp only [zC1,zFU,zQA,zUw,zUx,zUv,zU4,zKl]
  rw [zVE (by simpa using h),e]
  simp
def okW (w:Str):Prop:=1<=w.length/\w.length<=3/\∀ x∈w.cps.toList,97<=x/\x<=122
theorem len3 {α:Type} {l:List α} (h:l.length=3):∃ a b c,l = [a,b,c]:=by
 match l,h with
 | [a,b,c],_=>exact ⟨a,b,c,rfl⟩
theorem len2 {α:Type} {l:List α} (h:l.length=2):∃ a b,l = [a,b]:=by
 match l,h with
 | [a,b],_=>exact ⟨a,b,rfl⟩
theorem len1 {α:Type} {l:List α} (h:l.length=1):∃ a,l = [a]:=by
 match l,h with
 | [a],_=>exact ⟨a,rfl⟩
theorem zGm (c:Int):∃ W:Int->Str,(∀ j,okW (W j))/\(∀ j,yM [.int c,.int j]=some (.str (W j)))/\W 0≠W 1/\W 0≠W 2/\W 1≠W 2:=by
 obtain ⟨pre,post,h1,h2,h3⟩:=zR9 c
 have inj:∀ i j:Int,sg c i≠sg c j->(⟨(pre++sg c i::post).toArray⟩:Str)≠⟨(pre++sg c j::post).toArray⟩:=λi j n e=>by
  have e2:=zVw (λs:Str=>s.cps.toList) e
  simp at e2
  exact n e2
 have b0:=yd c 9923 (m:=26) (by decide)
 have b1:=ye c 9923 (m:=26) (by decide)
 have nn:∀ j:Int,0<=(mix c 9923 26+9*j)%26:=λj=>zWU _ (by decide)
 refine ⟨λj=>⟨(pre++sg c j::post).toArray⟩,λj=>⟨by simp [Str.length];omega,by simp [Str.length];omega,λx hx=>?_⟩,h3,inj 0 1 ?_,inj 0 2 ?_,inj 1 2 ?_⟩
 ·simp at hx
  rcases hx with hx|rfl|hx
  ·exact h1 x (by simp [hx])
  ·exact sg_ok c j
  ·exact h1 x (by simp [hx])
 all_goals (unfold sg lc;have:=nn 0;have:=nn 1;have:=nn 2;omega)
inductive Pl where
 |fin|tell (a b:Int) (ch:List (Str×Int))
def chD (p:Str×Int):D:=.tup [.str p.1,.int p.2]
def plD:Pl->D
 |.fin=>.tup [.str "end"]
 |.tell a b ch=>.tup [.str "tell",.int a,.int b,.tup (ch.map chD)]
structure okT (m:Int) (P:Int->Prop) (a b:Int) (ch:List (Str×Int)):Prop where
 a0:0<=a
 a1:a<m
 b0:0<=b
 b1:b<m
 ne:a≠b
 l0:1<=ch.length
 l1:ch.length<=3
 rs:ya (ch.map (·.1))
 wd:∀ p∈ch,okW p.1
 nx:∀ p∈ch,P p.2
def okP (m:Int) (P:Int->Prop):Pl->Prop
 |.fin=>True
 |.tell a b ch=>okT m P a b ch
theorem okP.mono {m:Int} {P Q:Int->Prop} (h:∀ n,P n->Q n):∀ {p:Pl},okP m P p->okP m Q p
 |.fin,_=>trivial
 |.tell a b ch,k=>⟨k.a0,k.a1,k.b0,k.b1,k.ne,k.l0,k.l1,k.rs,k.wd,λp hp=>h _ (k.nx p hp)⟩
def zn (m:Int) (P:Int->Prop) (ds:List D):Prop:=∃ ps:List Pl,ds=ps.map plD/\∀ p∈ps,okP m P p/\p≠.fin
def pr (e h a b:Int):Nat:=if a=e/\b=h then 1 else 0
theorem zIv (e h a b:Int):pr e h a b<=1:=by unfold pr;split<;>omega
def zMq (e h:Int):D->Nat
 |.tup [_,.int a,.int b,.tup ch]=>ch.length*pr e h a b
 |_=>0
def qV (e h:Int):List D->Nat
 | []=>0
 |d::ds=>zMq e h d+qV e h ds
theorem zEK (e h:Int):∀ xs ys:List D,qV e h (xs++ys)=qV e h xs+qV e h ys
 | [],_=>by simp [qV]
 |x::xs,ys=>by simp only [zVy,qV,zEK e h xs ys];omega
theorem zn.nil {m:Int} {P:Int->Prop}:zn m P []:=⟨[],rfl,by simp⟩
theorem zn.app {m:Int} {P:Int->Prop} {xs ys:List D} (h:zn m P xs) (k:zn m P ys):zn m P (xs++ys):=by
 obtain ⟨p,rfl,h⟩:=h
 obtain ⟨q,rfl,k⟩:=k
 refine ⟨p++q,by simp,λx hx=>?_⟩
 rcases zU2.mp hx with hx|hx
 ·exact h x hx
 ·exact k x hx
theorem zn.mono {m:Int} {P Q:Int->Prop} {ds:List D} (h:zn m P ds) (k:∀ n,P n->Q n):zn m Q ds:=by
 obtain ⟨ps,e,h⟩:=h
 exact ⟨ps,e,λp hp=>⟨(h p hp).1.mono k,(h p hp).2⟩⟩
theorem zn.cons {m:Int} {P:Int->Prop} {ds:List D} (p:Pl) (hp:okP m P p) (h:zn m P ds) (hf:p≠.fin:=by simp):zn m P (plD p::ds):=by
 obtain ⟨ps,rfl,h⟩:=h
 exact ⟨p::ps,rfl,λq hq=>by
  rcases zU1.mp hq with rfl|hq
  ·exact ⟨hp,hf⟩
  ·exact h q hq⟩
theorem zn.t1 {m:Int} {P:Int->Prop} {ds:List D} {a b:Int} {w:Str} {n:Int} (h1:0<=a/\a<m) (h2:0<=b/\b<m) (h3:a≠b) (hw:okW w) (hn:P n) (h:zn m P ds) :
  zn m P (.tup [.str "tell",.int a,.int b,.tup [.tup [.str w,.int n]]]::ds):=
 zn.cons (.tell a b [(w,n)]) ⟨h1.1,h1.2,h2.1,h2.2,h3,by simp,by simp,by simp,by simpa using hw,by simpa using hn⟩ h
theorem zn.t2 {m:Int} {P:Int->Prop} {ds:List D} {a b:Int} {w w':Str} {n n':Int} (h1:0<=a/\a<m) (h2:0<=b/\b<m) (h3:a≠b) (hr:ya [w,w']) (hw:okW w) (hw':okW w') (hn:P n) (hn':P n') (h:zn m P ds) :
  zn m P (.tup [.str "tell",.int a,.int b,.tup [.tup [.str w,.int n],.tup [.str w',.int n']]]::ds):=
 zn.cons (.tell a b [(w,n),(w',n')]) ⟨h1.1,h1.2,h2.1,h2.2,h3,by simp,by simp,hr,by simp [hw,hw'],by simp [hn,hn']⟩ h
theorem zn.t3 {m:Int} {P:Int->Prop} {ds:List D} {a b:Int} {w w' w'':Str} {n n' n'':Int} (h1:0<=a/\a<m) (h2:0<=b/\b<m) (h3:a≠b) (hr:ya [w,w',w'']) (hw:okW w) (hw':okW w') (hw'':okW w'') (hn:P n) (hn':P n') (hn'':P n'') (h:zn m P ds) :
  zn m P (.tup [.str "tell",.int a,.int b,.tup [.tup [.str w,.int n],.tup [.str w',.int n'],.tup [.str w'',.int n'']]]::ds):=
 zn.cons (.tell a b [(w,n),(w',n'),(w'',n'')]) ⟨h1.1,h1.2,h2.1,h2.2,h3,by simp,by simp,hr,by simp [hw,hw',hw''],by simp [hn,hn',hn'']⟩ h
theorem r2:List.range 2 = [0,1]:=rfl
theorem r3:List.range 3 = [0,1,2]:=rfl
def tl (a b:Int) (l:List (Str×Int)):D:=.tup [.str "tell",.int a,.int b,.tup (l.map λ(w,n)=>.tup [.str w,.int n])]
theorem zAR {e h a b:Int} {l:List (Str×Int)}:zMq e h (tl a b l)=l.length*pr e h a b:=by simp [zMq,tl]
theorem zIw {e h a x y z:Int} (h1:x≠y) (h2:x≠z) (h3:y≠z):pr e h a x+pr e h a y+pr e h a z<=1:=by unfold pr;split<;>split<;>split<;>omega
theorem zIx {e h a x y:Int} (h1:x≠y):pr e h a x+pr e h a y<=1:=by unfold pr;split<;>split<;>omega
theorem zMr {e h a x y:Int} (n1:a≠x) (n3:x≠y):pr e h a x+pr e h a y+pr e h x y<=1:=by unfold pr;split<;>split<;>split<;>omega
theorem zMs {e h a x y z:Int} (n1:a≠x) (n3:x≠y) (n5:y≠z):pr e h a x+pr e h a y+pr e h x y+pr e h x z<=1:=by unfold pr;split<;>split<;>split<;>split<;>omega
theorem zOx {st g0 g1 g2 one o0 o1:Int} {w0:Str} (hr:ya [w0]) (hw0:okW w0) (h1:0<=one/\one<3) (q0:0<=o0/\o0<3) (q1:0<=o1/\o1<3) (n1:one≠o0) (n2:one≠o1) (n3:o0≠o1)  :
  ∃ ds,zk [.int st,.lst [.int g0,.int g1,.int g2],.int one,.lst [.int o0,.int o1],.lst [.str w0]]=some (.lst ds)/\ds.length=3/\zn 3 (λn=>(st<n/\n<st+3)\/n=g0\/n=g1\/n=g2) ds/\∀ e h,qV e h ds<=3:=by
 refine' ⟨[tl one o0 [(w0,st+1+0)],tl one o1 [(w0,st+1+0+1)],tl o0 o1 [(w0,g0)]],?h,?l,?g,?c⟩
 case h=>kernel_rfl
 case l=>rfl
 case g=>
  refine zn.t1 h1 q0 n1 hw0 (by omega) ?_
  refine zn.t1 h1 q1 n2 hw0 (by omega) ?_
  refine zn.t1 q0 q1 n3 hw0 (by omega) ?_
  exact zn.nil
 case c=>
  intro e h
  simp only [qV,zAR,zUv,zVC]
  have:=zMr (e:=e) (h:=h) n1 n3
  omega
theorem zOy {st g0 g1 g2 one o0 o1 o2:Int} {w0:Str} (hr:ya [w0]) (hw0:okW w0) (h1:0<=one/\one<4) (q0:0<=o0/\o0<4) (q1:0<=o1/\o1<4) (q2:0<=o2/\o2<4) (n1:one≠o0) (n2:one≠o1) (n3:o0≠o1) (n4:o0≠o2) (n5:o1≠o2) :
  ∃ ds,zk [.int st,.lst [.int g0,.int g1,.int g2],.int one,.lst [.int o0,.int o1,.int o2],.lst [.str w0]]=some (.lst ds)/\ds.length=4/\zn 4 (λn=>(st<n/\n<st+4)\/n=g0\/n=g1\/n=g2) ds/\∀ e h,qV e h ds<=3:=by
 refine' ⟨[tl one o0 [(w0,st+1+0)],tl one o1 [(w0,st+1+0+1)],tl o0 o1 [(w0,st+1+0+1+1)],tl o0 o2 [(w0,g0)]],?h,?l,?g,?c⟩
 case h=>kernel_rfl
 case l=>rfl
 case g=>
  refine zn.t1 h1 q0 n1 hw0 (by omega) ?_
  refine zn.t1 h1 q1 n2 hw0 (by omega) ?_
  refine zn.t1 q0 q1 n3 hw0 (by omega) ?_
  refine zn.t1 q0 q2 n4 hw0 (by omega) ?_
  exact zn.nil
 case c=>
  intro e h
  simp only [qV,zAR,zUv,zVC]
  have:=zMs (e:=e) (h:=h) n1 n3 n5
  omega
theorem zOz {st g0 g1 g2 one o0 o1:Int} {w0 w1:Str} (hr:ya [w0,w1]) (hw0:okW w0) (hw1:okW w1) (h1:0<=one/\one<3) (q0:0<=o0/\o0<3) (q1:0<=o1/\o1<3) (n1:one≠o0) (n2:one≠o1) (n3:o0≠o1)  :
  ∃ ds,zk [.int st,.lst [.int g0,.int g1,.int g2],.int one,.lst [.int o0,.int o1],.lst [.str w0,.str w1]]=some (.lst ds)/\ds.length=5/\zn 3 (λn=>(st<n/\n<st+5)\/n=g0\/n=g1\/n=g2) ds/\∀ e h,qV e h ds<=3:=by
 refine' ⟨[tl one o0 [(w0,st+1+0),(w1,st+1+2)],tl one o1 [(w0,st+1+0+1)],tl o0 o1 [(w0,g0)],tl one o1 [(w0,st+1+2+1)],tl o0 o1 [(w1,g1)]],?h,?l,?g,?c⟩
 case h=>kernel_rfl
 case l=>rfl
 case g=>
  refine zn.t2 h1 q0 n1 hr hw0 hw1 (by omega) (by omega) ?_
  refine zn.t1 h1 q1 n2 hw0 (by omega) ?_
  refine zn.t1 q0 q1 n3 hw0 (by omega) ?_
  refine zn.t1 h1 q1 n2 hw0 (by omega) ?_
  refine zn.t1 q0 q1 n3 hw1 (by omega) ?_
  exact zn.nil
 case c=>
  intro e h
  simp only [qV,zAR,zUv,zVC]
  have:=zMr (e:=e) (h:=h) n1 n3
  omega
theorem zO0 {st g0 g1 g2 one o0 o1 o2:Int} {w0 w1:Str} (hr:ya [w0,w1]) (hw0:okW w0) (hw1:okW w1) (h1:0<=one/\one<4) (q0:0<=o0/\o0<4) (q1:0<=o1/\o1<4) (q2:0<=o2/\o2<4) (n1:one≠o0) (n2:one≠o1) (n3:o0≠o1) (n4:o0≠o2) (n5:o1≠o2) :
  ∃ ds,zk [.int st,.lst [.int g0,.int g1,.int g2],.int one,.lst [.int o0,.int o1,.int o2],.lst [.str w0,.str w1]]=some (.lst ds)/\ds.length=7/\zn 4 (λn=>(st<n/\n<st+7)\/n=g0\/n=g1\/n=g2) ds/\∀ e h,qV e h ds<=3:=by
 refine' ⟨[tl one o0 [(w0,st+1+0),(w1,st+1+3)],tl one o1 [(w0,st+1+0+1)],tl o0 o1 [(w0,st+1+0+1+1)],tl o0 o2 [(w0,g0)],tl one o1 [(w0,st+1+3+1)],tl o0 o1 [(w1,st+1+3+1+1)],tl o0 o2 [(w1,g1)]],?h,?l,?g,?c⟩
 case h=>kernel_rfl
 case l=>rfl
 case g=>
  refine zn.t2 h1 q0 n1 hr hw0 hw1 (by omega) (by omega) ?_
  refine zn.t1 h1 q1 n2 hw0 (by omega) ?_
  refine zn.t1 q0 q1 n3 hw0 (by omega) ?_
  refine zn.t1 q0 q2 n4 hw0 (by omega) ?_
  refine zn.t1 h1 q1 n2 hw0 (by omega) ?_
  refine zn.t1 q0 q1 n3 hw1 (by omega) ?_
  refine zn.t1 q0 q2 n4 hw1 (by omega) ?_
  exact zn.nil
 case c=>
  intro e h
  simp only [qV,zAR,zUv,zVC]
  have:=zMs (e:=e) (h:=h) n1 n3 n5
  omega
theorem zO1 {st g0 g1 g2 one o0 o1:Int} {w0 w1 w2:Str} (hr:ya [w0,w1,w2]) (hw0:okW w0) (hw1:okW w1) (hw2:okW w2) (h1:0<=one/\one<3) (q0:0<=o0/\o0<3) (q1:0<=o1/\o1<3) (n1:one≠o0) (n2:one≠o1) (n3:o0≠o1)  :
  ∃ ds,zk [.int st,.lst [.int g0,.int g1,.int g2],.int one,.lst [.int o0,.int o1],.lst [.str w0,.str w1,.str w2]]=some (.lst ds)/\ds.length=7/\zn 3 (λn=>(st<n/\n<st+7)\/n=g0\/n=g1\/n=g2) ds/\∀ e h,qV e h ds<=3:=by
 refine' ⟨[tl one o0 [(w0,st+1+0),(w1,st+1+2),(w2,st+1+4)],tl one o1 [(w0,st+1+0+1)],tl o0 o1 [(w0,g0)],tl one o1 [(w0,st+1+2+1)],tl o0 o1 [(w1,g1)],tl one o1 [(w0,st+1+4+1)],tl o0 o1 [(w2,g2)]],?h,?l,?g,?c⟩
 case h=>kernel_rfl
 case l=>rfl
 case g=>
  refine zn.t3 h1 q0 n1 hr hw0 hw1 hw2 (by omega) (by omega) (by omega) ?_
  refine zn.t1 h1 q1 n2 hw0 (by omega) ?_
  refine zn.t1 q0 q1 n3 hw0 (by omega) ?_
  refine zn.t1 h1 q1 n2 hw0 (by omega) ?_
  refine zn.t1 q0 q1 n3 hw1 (by omega) ?_
  refine zn.t1 h1 q1 n2 hw0 (by omega) ?_
  refine zn.t1 q0 q1 n3 hw2 (by omega) ?_
  exact zn.nil
 case c=>
  intro e h
  simp only [qV,zAR,zUv,zVC]
  have:=zMr (e:=e) (h:=h) n1 n3
  omega
theorem zO2 {st g0 g1 g2 one o0 o1 o2:Int} {w0 w1 w2:Str} (hr:ya [w0,w1,w2]) (hw0:okW w0) (hw1:okW w1) (hw2:okW w2) (h1:0<=one/\one<4) (q0:0<=o0/\o0<4) (q1:0<=o1/\o1<4) (q2:0<=o2/\o2<4) (n1:one≠o0) (n2:one≠o1) (n3:o0≠o1) (n4:o0≠o2) (n5:o1≠o2) :
  ∃ ds,zk [.int st,.lst [.int g0,.int g1,.int g2],.int one,.lst [.int o0,.int o1,.int o2],.lst [.str w0,.str w1,.str w2]]=some (.lst ds)/\ds.length=10/\zn 4 (λn=>(st<n/\n<st+10)\/n=g0\/n=g1\/n=g2) ds/\∀ e h,qV e h ds<=3:=by
 refine' ⟨[tl one o0 [(w0,st+1+0),(w1,st+1+3),(w2,st+1+6)],tl one o1 [(w0,st+1+0+1)],tl o0 o1 [(w0,st+1+0+1+1)],tl o0 o2 [(w0,g0)],tl one o1 [(w0,st+1+3+1)],tl o0 o1 [(w1,st+1+3+1+1)],tl o0 o2 [(w1,g1)],tl one o1 [(w0,st+1+6+1)],tl o0 o1 [(w2,st+1+6+1+1)],tl o0 o2 [(w2,g2)]],?h,?l,?g,?c⟩
 case h=>kernel_rfl
 case l=>rfl
 case g=>
  refine zn.t3 h1 q0 n1 hr hw0 hw1 hw2 (by omega) (by omega) (by omega) ?_
  refine zn.t1 h1 q1 n2 hw0 (by omega) ?_
  refine zn.t1 q0 q1 n3 hw0 (by omega) ?_
  refine zn.t1 q0 q2 n4 hw0 (by omega) ?_
  refine zn.t1 h1 q1 n2 hw0 (by omega) ?_
  refine zn.t1 q0 q1 n3 hw1 (by omega) ?_
  refine zn.t1 q0 q2 n4 hw1 (by omega) ?_
  refine zn.t1 h1 q1 n2 hw0 (by omega) ?_
  refine zn.t1 q0 q1 n3 hw2 (by omega) ?_
  refine zn.t1 q0 q2 n4 hw2 (by omega) ?_
  exact zn.nil
 case c=>
  intro e h
  simp only [qV,zAR,zUv,zVC]
  have:=zMs (e:=e) (h:=h) n1 n3 n5
  omega
theorem zMt {N:List Str} {F:ROo} {ds:List D} {d:D} (h:F (ds.map Sl.v++List.replicate (N.length-ds.length) .un)=some (.rt d)):zDY N F ds=some d:=by unfold zDY;rw [h];rfl
theorem zm {F G:ROo} {ρ ρ':Rho} (h:F ρ=some (.nx ρ')):sq F G ρ=G ρ':=by simp only [sq,h,zUw]
theorem zUC {F G:ROo} {ρ:Rho} {d:D} (h:F ρ=some (.rt d)):sq F G ρ=some (.rt d):=by simp only [sq,h,zUw]
def b2i (b:Bool):Int:=if b then 1 else 0
theorem srt_1 (c:Int):∃ (W:Int->Str) (w0:Str),(∀ j,yM [.int c,.int j]=some (.str (W j)))/\ya [w0]/\okW w0/\zC1 (.lst [.str (W 0)])=some [.str w0]:=by
 obtain ⟨W,hO,hW,n01,n02,n12⟩:=zGm c
 have hsr:ya (zAn [W 0]):=qk (by simp [n01,n02,n12])
 have hsl:=zA6 (l:=[W 0])
 have hsm:∀ w∈zAn [W 0],okW w:=λw hw=>by
  have:=zA5.mp hw
  simp only [zU1,List.not_mem_nil,or_false] at this
  rcases this with rfl<;>exact hO _
 have hs:=zDB (l:=[W 0]) (by simp)
 obtain ⟨w0,ew⟩:=len1 hsl
 rw [ew] at hsr hsm hs
 exact ⟨W,w0,hW,hsr,hsm w0 (by simp),hs⟩
theorem zUD (c:Int):∃ (W:Int->Str) (w0 w1:Str),(∀ j,yM [.int c,.int j]=some (.str (W j)))/\ya [w0,w1]/\okW w0/\okW w1/\zC1 (.lst [.str (W 0),.str (W 1)])=some [.str w0,.str w1]:=by
 obtain ⟨W,hO,hW,n01,n02,n12⟩:=zGm c
 have hsr:ya (zAn [W 0,W 1]):=qk (by simp [n01,n02,n12])
 have hsl:=zA6 (l:=[W 0,W 1])
 have hsm:∀ w∈zAn [W 0,W 1],okW w:=λw hw=>by
  have:=zA5.mp hw
  simp only [zU1,List.not_mem_nil,or_false] at this
  rcases this with rfl|rfl<;>exact hO _
 have hs:=zDB (l:=[W 0,W 1]) (by simp)
 obtain ⟨w0,w1,ew⟩:=len2 hsl
 rw [ew] at hsr hsm hs
 exact ⟨W,w0,w1,hW,hsr,hsm w0 (by simp),hsm w1 (by simp),hs⟩
theorem srt_3 (c:Int):∃ (W:Int->Str) (w0 w1 w2:Str),(∀ j,yM [.int c,.int j]=some (.str (W j)))/\ya [w0,w1,w2]/\okW w0/\okW w1/\okW w2/\zC1 (.lst [.str (W 0),.str (W 1),.str (W 2)])=some [.str w0,.str w1,.str w2]:=by
 obtain ⟨W,hO,hW,n01,n02,n12⟩:=zGm c
 have hsr:ya (zAn [W 0,W 1,W 2]):=qk (by simp [n01,n02,n12])
 have hsl:=zA6 (l:=[W 0,W 1,W 2])
 have hsm:∀ w∈zAn [W 0,W 1,W 2],okW w:=λw hw=>by
  have:=zA5.mp hw
  simp only [zU1,List.not_mem_nil,or_false] at this
  rcases this with rfl|rfl|rfl<;>exact hO _
 have hs:=zDB (l:=[W 0,W 1,W 2]) (by simp)
 obtain ⟨w0,w1,w2,ew⟩:=len3 hsl
 rw [ew] at hsr hsm hs
 exact ⟨W,w0,w1,w2,hW,hsr,hsm w0 (by simp),hsm w1 (by simp),hsm w2 (by simp),hs⟩
theorem zSA {c:Int} (e:mix c 9949 3=0):∃ w0:Str,ya [w0]/\okW w0/\∀ a1 a2 a3 a4 a5 d,yB [.v (.int c),a1,a2,a3,a4,a5,.v (.lst [.str w0]),.un,.un,.un,.un,.un,.un]=some (.rt d)->zl [.v (.int c),a1,a2,a3,a4,a5,.un,.un,.un,.un,.un,.un,.un]=some (.rt d):=by
 obtain ⟨W,w0,hW,hsr,hw0,hs⟩:=srt_1 c
 refine ⟨w0,hsr,hw0,λa1 a2 a3 a4 a5 d z=>?_⟩
 unfold zl
 refine (zm (ρ':=[.v (.int c),a1,a2,a3,a4,a5,.v (.lst [.str w0]),.un,.un,.un,.un,.un,.un]) ?_).trans z
 exists 0,zVq,r2,r3,zV4,zV0,List.set,qi,e,hW,hs,atI,ixN,ixO
theorem zSB {c:Int} (e:mix c 9949 3=1):∃ w0 w1:Str,ya [w0,w1]/\okW w0/\okW w1/\∀ a1 a2 a3 a4 a5 d,yB [.v (.int c),a1,a2,a3,a4,a5,.v (.lst [.str w0,.str w1]),.un,.un,.un,.un,.un,.un]=some (.rt d)->zl [.v (.int c),a1,a2,a3,a4,a5,.un,.un,.un,.un,.un,.un,.un]=some (.rt d):=by
 obtain ⟨W,w0,w1,hW,hsr,hw0,hw1,hs⟩:=zUD c
 refine ⟨w0,w1,hsr,hw0,hw1,λa1 a2 a3 a4 a5 d z=>?_⟩
 unfold zl
 refine (zm (ρ':=[.v (.int c),a1,a2,a3,a4,a5,.v (.lst [.str w0,.str w1]),.un,.un,.un,.un,.un,.un]) ?_).trans z
 exists 0,zVq,r2,r3,zV4,zV0,List.set,qi,e,hW,hs,atI,ixN,ixO
theorem zSC {c:Int} (e:mix c 9949 3=2):∃ w0 w1 w2:Str,ya [w0,w1,w2]/\okW w0/\okW w1/\okW w2/\∀ a1 a2 a3 a4 a5 d,yB [.v (.int c),a1,a2,a3,a4,a5,.v (.lst [.str w0,.str w1,.str w2]),.un,.un,.un,.un,.un,.un]=some (.rt d)->zl [.v (.int c),a1,a2,a3,a4,a5,.un,.un,.un,.un,.un,.un,.un]=some (.rt d):=by
 obtain ⟨W,w0,w1,w2,hW,hsr,hw0,hw1,hw2,hs⟩:=srt_3 c
 refine ⟨w0,w1,w2,hsr,hw0,hw1,hw2,λa1 a2 a3 a4 a5 d z=>?_⟩
 unfold zl
 refine (zm (ρ':=[.v (.int c),a1,a2,a3,a4,a5,.v (.lst [.str w0,.str w1,.str w2]),.un,.un,.un,.un,.un,.un]) ?_).trans z
 exists 0,zVq,r2,r3,zV4,zV0,List.set,qi,e,hW,hs,atI,ixN,ixO
theorem on_2 (c st g0 g1 g2:Int):∃ one o0:Int,(0<=one/\one<2)/\(0<=o0/\o0<2)/\one≠o0/\∀ d,zl [.v (.int c),.v (.int st),.v (.int 2),.v (.lst [.int g0,.int g1,.int g2]),.v (.int one),.v (.lst [.int o0]),.un,.un,.un,.un,.un,.un,.un]=some (.rt d)->zY [.int c,.int st,.int 2,.lst [.int g0,.int g1,.int g2]]=some d:=by
 have a0:=yd c 9929 (m:=2) (by decide)
 have a1:=ye c 9929 (m:=2) (by decide)
 have b0:=yd c 9901 (m:=1) (by decide)
 have b1:=ye c 9901 (m:=1) (by decide)
 generalize ho:mix c 9929 2=one at a0 a1
 generalize hr:mix c 9901 1=r at b0 b1
 refine ⟨one,(one+1+r%1)%2,⟨a0,a1⟩,by omega,by omega,λd z=>zMt ((zm (ρ':=[.v (.int c),.v (.int st),.v (.int 2),.v (.lst [.int g0,.int g1,.int g2]),.v (.int one),.un,.un,.un,.un,.un,.un,.un,.un]) ?_).trans ((zm ?_).trans z))⟩
 ·exists 0,zVq,r2,r3,zV4,zV0,List.set,yt,qi,ho,atI,ixN,ixO
 ·exists 0,zVq,r2,r3,zV4,zV0,List.set,qi,hr,atI,ixN,ixO
theorem on_3 (c st g0 g1 g2:Int):∃ one o0 o1:Int,(0<=one/\one<3)/\(0<=o0/\o0<3)/\(0<=o1/\o1<3)/\one≠o0/\one≠o1/\o0≠o1/\∀ d,zl [.v (.int c),.v (.int st),.v (.int 3),.v (.lst [.int g0,.int g1,.int g2]),.v (.int one),.v (.lst [.int o0,.int o1]),.un,.un,.un,.un,.un,.un,.un]=some (.rt d)->zY [.int c,.int st,.int 3,.lst [.int g0,.int g1,.int g2]]=some d:=by
 have a0:=yd c 9929 (m:=3) (by decide)
 have a1:=ye c 9929 (m:=3) (by decide)
 have b0:=yd c 9901 (m:=2) (by decide)
 have b1:=ye c 9901 (m:=2) (by decide)
 generalize ho:mix c 9929 3=one at a0 a1
 generalize hr:mix c 9901 2=r at b0 b1
 refine ⟨one,(one+1+r%2)%3,(one+1+(1+r)%2)%3,⟨a0,a1⟩,by omega,by omega,by omega,by omega,by omega,λd z=>zMt ((zm (ρ':=[.v (.int c),.v (.int st),.v (.int 3),.v (.lst [.int g0,.int g1,.int g2]),.v (.int one),.un,.un,.un,.un,.un,.un,.un,.un]) ?_).trans ((zm ?_).trans z))⟩
 ·exists 0,zVq,r2,r3,zV4,zV0,List.set,yt,qi,ho,atI,ixN,ixO
 ·exists 0,zVq,r2,r3,zV4,zV0,List.set,qi,hr,atI,ixN,ixO
theorem on_4 (c st g0 g1 g2:Int):∃ one o0 o1 o2:Int,(0<=one/\one<4)/\(0<=o0/\o0<4)/\(0<=o1/\o1<4)/\(0<=o2/\o2<4)/\one≠o0/\one≠o1/\one≠o2/\o0≠o1/\o0≠o2/\o1≠o2/\∀ d,zl [.v (.int c),.v (.int st),.v (.int 4),.v (.lst [.int g0,.int g1,.int g2]),.v (.int one),.v (.lst [.int o0,.int o1,.int o2]),.un,.un,.un,.un,.un,.un,.un]=some (.rt d)->zY [.int c,.int st,.int 4,.lst [.int g0,.int g1,.int g2]]=some d:=by
 have a0:=yd c 9929 (m:=4) (by decide)
 have a1:=ye c 9929 (m:=4) (by decide)
 have b0:=yd c 9901 (m:=3) (by decide)
 have b1:=ye c 9901 (m:=3) (by decide)
 generalize ho:mix c 9929 4=one at a0 a1
 generalize hr:mix c 9901 3=r at b0 b1
 refine ⟨one,(one+1+r%3)%4,(one+1+(1+r)%3)%4,(one+1+(2+r)%3)%4,⟨a0,a1⟩,by omega,by omega,by omega,by omega,by omega,by omega,by omega,by omega,by omega,λd z=>zMt ((zm (ρ':=[.v (.int c),.v (.int st),.v (.int 4),.v (.lst [.int g0,.int g1,.int g2]),.v (.int one),.un,.un,.un,.un,.un,.un,.un,.un]) ?_).trans ((zm ?_).trans z))⟩
 ·exists 0,zVq,r2,r3,zV4,zV0,List.set,yt,qi,ho,atI,ixN,ixO
 ·exists 0,zVq,r2,r3,zV4,zV0,List.set,qi,hr,atI,ixN,ixO
theorem zGn {c m:Int} {a1 a3 a4 a5 a6:Sl} {d:D} (hl:zCn c m=false) (z:zBz [.v (.int c),a1,.v (.int m),a3,a4,a5,a6,.un,.un,.un,.un,.un,.un]=some (.rt d)):yB [.v (.int c),a1,.v (.int m),a3,a4,a5,a6,.un,.un,.un,.un,.un,.un]=some (.rt d):=by
 unfold yB
 refine (zm ?_).trans z
 exists 0,zVq,r2,r3,zV4,zV0,List.set,zMm,hl,atI,ixN,ixO
theorem zKw {c m:Int} {a1 a3 a4 a5 a6 d:D} (hl:zCn c m=true) (e:zk [a1,a3,a4,a5,a6]=some d):yB [.v (.int c),.v a1,.v (.int m),.v a3,.v a4,.v a5,.v a6,.un,.un,.un,.un,.un,.un]=some (.rt d):=by
 unfold yB
 refine zUC ?_
 exists 0,zVq,r2,r3,zV4,zV0,List.set,zMm,hl,e,atI,ixN,ixO
theorem zO3 (c st g0 g1 g2:Int) (e:mix c 9949 3=0) :
  ∃ ds,zY [.int c,.int st,.int 2,.lst [.int g0,.int g1,.int g2]]=some (.lst ds)/\(ds.length:Int)=1+1*(0+b2i (zCn c 2))/\zn 2 (λn=>(st<n/\n<st+(ds.length:Int))\/n=g0\/n=g1\/n=g2) ds/\∀ e h,qV e h ds<=3:=by
 obtain ⟨w0,hsr,hw0,wd⟩:=zSA e
 obtain ⟨one,o0,h1,q0,n0,run⟩:=on_2 c st g0 g1 g2
 have hl:zCn c 2=false:=by simp [zCn]
 rw [hl]
 refine' ⟨[tl one o0 [(w0,g0)]],run _ (wd _ _ _ _ _ _ (zGn hl ?h)),?l,?g,?c⟩
 case h=>kernel_rfl
 case l=>rfl
 case g=>
  simp only [zUv,zVC]
  refine zn.t1 h1 q0 n0 hw0 (by simp;try omega) ?_
  exact zn.nil
 case c=>
  intro e h
  simp only [qV,zAR,zUv,zVC]
  have:=zIv e h one o0
  omega
theorem zO4 (c st g0 g1 g2:Int) (e:mix c 9949 3=1) :
  ∃ ds,zY [.int c,.int st,.int 2,.lst [.int g0,.int g1,.int g2]]=some (.lst ds)/\(ds.length:Int)=1+2*(0+b2i (zCn c 2))/\zn 2 (λn=>(st<n/\n<st+(ds.length:Int))\/n=g0\/n=g1\/n=g2) ds/\∀ e h,qV e h ds<=3:=by
 obtain ⟨w0,w1,hsr,hw0,hw1,wd⟩:=zSB e
 obtain ⟨one,o0,h1,q0,n0,run⟩:=on_2 c st g0 g1 g2
 have hl:zCn c 2=false:=by simp [zCn]
 rw [hl]
 refine' ⟨[tl one o0 [(w0,g0),(w1,g1)]],run _ (wd _ _ _ _ _ _ (zGn hl ?h)),?l,?g,?c⟩
 case h=>kernel_rfl
 case l=>rfl
 case g=>
  simp only [zUv,zVC]
  refine zn.t2 h1 q0 n0 hsr hw0 hw1 (by simp;try omega) (by simp;try omega) ?_
  exact zn.nil
 case c=>
  intro e h
  simp only [qV,zAR,zUv,zVC]
  have:=zIv e h one o0
  omega
theorem zO5 (c st g0 g1 g2:Int) (e:mix c 9949 3=2) :
  ∃ ds,zY [.int c,.int st,.int 2,.lst [.int g0,.int g1,.int g2]]=some (.lst ds)/\(ds.length:Int)=1+3*(0+b2i (zCn c 2))/\zn 2 (λn=>(st<n/\n<st+(ds.length:Int))\/n=g0\/n=g1\/n=g2) ds/\∀ e h,qV e h ds<=3:=by
 obtain ⟨w0,w1,w2,hsr,hw0,hw1,hw2,wd⟩:=zSC e
 obtain ⟨one,o0,h1,q0,n0,run⟩:=on_2 c st g0 g1 g2
 have hl:zCn c 2=false:=by simp [zCn]
 rw [hl]
 refine' ⟨[tl one o0 [(w0,g0),(w1,g1),(w2,g2)]],run _ (wd _ _ _ _ _ _ (zGn hl ?h)),?l,?g,?c⟩
 case h=>kernel_rfl
 case l=>rfl
 case g=>
  simp only [zUv,zVC]
  refine zn.t3 h1 q0 n0 hsr hw0 hw1 hw2 (by simp;try omega) (by simp;try omega) (by simp;try omega) ?_
  exact zn.nil
 case c=>
  intro e h
  simp only [qV,zAR,zUv,zVC]
  have:=zIv e h one o0
  omega
theorem zO6 (c st g0 g1 g2:Int) (e:mix c 9949 3=0) :
  ∃ ds,zY [.int c,.int st,.int 3,.lst [.int g0,.int g1,.int g2]]=some (.lst ds)/\(ds.length:Int)=1+1*(1+b2i (zCn c 3))/\zn 3 (λn=>(st<n/\n<st+(ds.length:Int))\/n=g0\/n=g1\/n=g2) ds/\∀ e h,qV e h ds<=3:=by
 obtain ⟨w0,hsr,hw0,wd⟩:=zSA e
 obtain ⟨one,o0,o1,h1,q0,q1,n0,n1,d01,run⟩:=on_3 c st g0 g1 g2
 cases hl:zCn c 3 with
 |true=>
  obtain ⟨ds,e1,e2,e3,e4⟩:=zOx (st:=st) (g0:=g0) (g1:=g1) (g2:=g2) hsr hw0 h1 q0 q1 n0 n1 d01
  exact ⟨ds,run _ (wd _ _ _ _ _ _ (zKw hl e1)),by rw [e2];rfl,by rw [e2];exact e3,e4⟩
 |false=>
  refine' ⟨[tl one o0 [(w0,st+1+0+0)],tl one o1 [(w0,g0)]],run _ (wd _ _ _ _ _ _ (zGn hl ?h)),?l,?g,?c⟩
  case h=>kernel_rfl
  case l=>rfl
  case g=>
   simp only [zUv,zVC]
   refine zn.t1 h1 q0 n0 hw0 (by simp;try omega) ?_
   refine zn.t1 h1 q1 n1 hw0 (by simp;try omega) ?_
   exact zn.nil
  case c=>
   intro e h
   simp only [qV,zAR,zUv,zVC]
   have:=zIx (e:=e) (h:=h) (a:=one) d01
   omega
theorem zO7 (c st g0 g1 g2:Int) (e:mix c 9949 3=1) :
  ∃ ds,zY [.int c,.int st,.int 3,.lst [.int g0,.int g1,.int g2]]=some (.lst ds)/\(ds.length:Int)=1+2*(1+b2i (zCn c 3))/\zn 3 (λn=>(st<n/\n<st+(ds.length:Int))\/n=g0\/n=g1\/n=g2) ds/\∀ e h,qV e h ds<=3:=by
 obtain ⟨w0,w1,hsr,hw0,hw1,wd⟩:=zSB e
 obtain ⟨one,o0,o1,h1,q0,q1,n0,n1,d01,run⟩:=on_3 c st g0 g1 g2
 cases hl:zCn c 3 with
 |true=>
  obtain ⟨ds,e1,e2,e3,e4⟩:=zOz (st:=st) (g0:=g0) (g1:=g1) (g2:=g2) hsr hw0 hw1 h1 q0 q1 n0 n1 d01
  exact ⟨ds,run _ (wd _ _ _ _ _ _ (zKw hl e1)),by rw [e2];rfl,by rw [e2];exact e3,e4⟩
 |false=>
  refine' ⟨[tl one o0 [(w0,st+1+0+0),(w1,st+1+1+0)],tl one o1 [(w0,g0)],tl one o1 [(w1,g1)]],run _ (wd _ _ _ _ _ _ (zGn hl ?h)),?l,?g,?c⟩
  case h=>kernel_rfl
  case l=>rfl
  case g=>
   simp only [zUv,zVC]
   refine zn.t2 h1 q0 n0 hsr hw0 hw1 (by simp;try omega) (by simp;try omega) ?_
   refine zn.t1 h1 q1 n1 hw0 (by simp;try omega) ?_
   refine zn.t1 h1 q1 n1 hw1 (by simp;try omega) ?_
   exact zn.nil
  case c=>
   intro e h
   simp only [qV,zAR,zUv,zVC]
   have:=zIx (e:=e) (h:=h) (a:=one) d01
   omega
theorem zO8 (c st g0 g1 g2:Int) (e:mix c 9949 3=2) :
  ∃ ds,zY [.int c,.int st,.int 3,.lst [.int g0,.int g1,.int g2]]=some (.lst ds)/\(ds.length:Int)=1+3*(1+b2i (zCn c 3))/\zn 3 (λn=>(st<n/\n<st+(ds.length:Int))\/n=g0\/n=g1\/n=g2) ds/\∀ e h,qV e h ds<=3:=by
 obtain ⟨w0,w1,w2,hsr,hw0,hw1,hw2,wd⟩:=zSC e
 obtain ⟨one,o0,o1,h1,q0,q1,n0,n1,d01,run⟩:=on_3 c st g0 g1 g2
 cases hl:zCn c 3 with
 |true=>
  obtain ⟨ds,e1,e2,e3,e4⟩:=zO1 (st:=st) (g0:=g0) (g1:=g1) (g2:=g2) hsr hw0 hw1 hw2 h1 q0 q1 n0 n1 d01
  exact ⟨ds,run _ (wd _ _ _ _ _ _ (zKw hl e1)),by rw [e2];rfl,by rw [e2];exact e3,e4⟩
 |false=>
  refine' ⟨[tl one o0 [(w0,st+1+0+0),(w1,st+1+1+0),(w2,st+1+2+0)],tl one o1 [(w0,g0)],tl one o1 [(w1,g1)],tl one o1 [(w2,g2)]],run _ (wd _ _ _ _ _ _ (zGn hl ?h)),?l,?g,?c⟩
  case h=>kernel_rfl
  case l=>rfl
  case g=>
   simp only [zUv,zVC]
   refine zn.t3 h1 q0 n0 hsr hw0 hw1 hw2 (by simp;try omega) (by simp;try omega) (by simp;try omega) ?_
   refine zn.t1 h1 q1 n1 hw0 (by simp;try omega) ?_
   refine zn.t1 h1 q1 n1 hw1 (by simp;try omega) ?_
   refine zn.t1 h1 q1 n1 hw2 (by simp;try omega) ?_
   exact zn.nil
  case c=>
   intro e h
   simp only [qV,zAR,zUv,zVC]
   have:=zIx (e:=e) (h:=h) (a:=one) d01
   omega
theorem zO9 (c st g0 g1 g2:Int) (e:mix c 9949 3=0) :
  ∃ ds,zY [.int c,.int st,.int 4,.lst [.int g0,.int g1,.int g2]]=some (.lst ds)/\(ds.length:Int)=1+1*(2+b2i (zCn c 4))/\zn 4 (λn=>(st<n/\n<st+(ds.length:Int))\/n=g0\/n=g1\/n=g2) ds/\∀ e h,qV e h ds<=3:=by
 obtain ⟨w0,hsr,hw0,wd⟩:=zSA e
 obtain ⟨one,o0,o1,o2,h1,q0,q1,q2,n0,n1,n2,d01,d02,d12,run⟩:=on_4 c st g0 g1 g2
 cases hl:zCn c 4 with
 |true=>
  obtain ⟨ds,e1,e2,e3,e4⟩:=zOy (st:=st) (g0:=g0) (g1:=g1) (g2:=g2) hsr hw0 h1 q0 q1 q2 n0 n1 d01 d02 d12
  exact ⟨ds,run _ (wd _ _ _ _ _ _ (zKw hl e1)),by rw [e2];rfl,by rw [e2];exact e3,e4⟩
 |false=>
  refine' ⟨[tl one o0 [(w0,st+1+0+0)],tl one o1 [(w0,st+1+0+1)],tl one o2 [(w0,g0)]],run _ (wd _ _ _ _ _ _ (zGn hl ?h)),?l,?g,?c⟩
  case h=>kernel_rfl
  case l=>rfl
  case g=>
   simp only [zUv,zVC]
   refine zn.t1 h1 q0 n0 hw0 (by simp;try omega) ?_
   refine zn.t1 h1 q1 n1 hw0 (by simp;try omega) ?_
   refine zn.t1 h1 q2 n2 hw0 (by simp;try omega) ?_
   exact zn.nil
  case c=>
   intro e h
   simp only [qV,zAR,zUv,zVC]
   have:=zIw (e:=e) (h:=h) (a:=one) d01 d02 d12
   omega
theorem zPA (c st g0 g1 g2:Int) (e:mix c 9949 3=1) :
  ∃ ds,zY [.int c,.int st,.int 4,.lst [.int g0,.int g1,.int g2]]=some (.lst ds)/\(ds.length:Int)=1+2*(2+b2i (zCn c 4))/\zn 4 (λn=>(st<n/\n<st+(ds.length:Int))\/n=g0\/n=g1\/n=g2) ds/\∀ e h,qV e h ds<=3:=by
 obtain ⟨w0,w1,hsr,hw0,hw1,wd⟩:=zSB e
 obtain ⟨one,o0,o1,o2,h1,q0,q1,q2,n0,n1,n2,d01,d02,d12,run⟩:=on_4 c st g0 g1 g2
 cases hl:zCn c 4 with
 |true=>
  obtain ⟨ds,e1,e2,e3,e4⟩:=zO0 (st:=st) (g0:=g0) (g1:=g1) (g2:=g2) hsr hw0 hw1 h1 q0 q1 q2 n0 n1 d01 d02 d12
  exact ⟨ds,run _ (wd _ _ _ _ _ _ (zKw hl e1)),by rw [e2];rfl,by rw [e2];exact e3,e4⟩
 |false=>
  refine' ⟨[tl one o0 [(w0,st+1+0+0),(w1,st+1+2+0)],tl one o1 [(w0,st+1+0+1)],tl one o2 [(w0,g0)],tl one o1 [(w1,st+1+2+1)],tl one o2 [(w1,g1)]],run _ (wd _ _ _ _ _ _ (zGn hl ?h)),?l,?g,?c⟩
  case h=>kernel_rfl
  case l=>rfl
  case g=>
   simp only [zUv,zVC]
   refine zn.t2 h1 q0 n0 hsr hw0 hw1 (by simp;try omega) (by simp;try omega) ?_
   refine zn.t1 h1 q1 n1 hw0 (by simp;try omega) ?_
   refine zn.t1 h1 q2 n2 hw0 (by simp;try omega) ?_
   refine zn.t1 h1 q1 n1 hw1 (by simp;try omega) ?_
   refine zn.t1 h1 q2 n2 hw1 (by simp;try omega) ?_
   exact zn.nil
  case c=>
   intro e h
   simp only [qV,zAR,zUv,zVC]
   have:=zIw (e:=e) (h:=h) (a:=one) d01 d02 d12
   omega
theorem zPB (c st g0 g1 g2:Int) (e:mix c 9949 3=2) :
  ∃ ds,zY [.int c,.int st,.int 4,.lst [.int g0,.int g1,.int g2]]=some (.lst ds)/\(ds.length:Int)=1+3*(2+b2i (zCn c 4))/\zn 4 (λn=>(st<n/\n<st+(ds.length:Int))\/n=g0\/n=g1\/n=g2) ds/\∀ e h,qV e h ds<=3:=by
 obtain ⟨w0,w1,w2,hsr,hw0,hw1,hw2,wd⟩:=zSC e
 obtain ⟨one,o0,o1,o2,h1,q0,q1,q2,n0,n1,n2,d01,d02,d12,run⟩:=on_4 c st g0 g1 g2
 cases hl:zCn c 4 with
 |true=>
  obtain ⟨ds,e1,e2,e3,e4⟩:=zO2 (st:=st) (g0:=g0) (g1:=g1) (g2:=g2) hsr hw0 hw1 hw2 h1 q0 q1 q2 n0 n1 d01 d02 d12
  exact ⟨ds,run _ (wd _ _ _ _ _ _ (zKw hl e1)),by rw [e2];rfl,by rw [e2];exact e3,e4⟩
 |false=>
  refine' ⟨[tl one o0 [(w0,st+1+0+0),(w1,st+1+2+0),(w2,st+1+4+0)],tl one o1 [(w0,st+1+0+1)],tl one o2 [(w0,g0)],tl one o1 [(w1,st+1+2+1)],tl one o2 [(w1,g1)],tl one o1 [(w2,st+1+4+1)],tl one o2 [(w2,g2)]],run _ (wd _ _ _ _ _ _ (zGn hl ?h)),?l,?g,?c⟩
  case h=>kernel_rfl
  case l=>rfl
  case g=>
   simp only [zUv,zVC]
   refine zn.t3 h1 q0 n0 hsr hw0 hw1 hw2 (by simp;try omega) (by simp;try omega) (by simp;try omega) ?_
   refine zn.t1 h1 q1 n1 hw0 (by simp;try omega) ?_
   refine zn.t1 h1 q2 n2 hw0 (by simp;try omega) ?_
   refine zn.t1 h1 q1 n1 hw1 (by simp;try omega) ?_
   refine zn.t1 h1 q2 n2 hw1 (by simp;try omega) ?_
   refine zn.t1 h1 q1 n1 hw2 (by simp;try omega) ?_
   refine zn.t1 h1 q2 n2 hw2 (by simp;try omega) ?_
   exact zn.nil
  case c=>
   intro e h
   simp only [qV,zAR,zUv,zVC]
   have:=zIw (e:=e) (h:=h) (a:=one) d01 d02 d12
   omega
theorem zIy (c st g0 g1 g2 m:Int) (hm:m=2\/m=3\/m=4) :
  ∃ ds,zY [.int c,.int st,.int m,.lst [.int g0,.int g1,.int g2]]=some (.lst ds)/\(ds.length:Int)=1+(1+mix c 9949 3)*(m-2+b2i (zCn c m))/\zn m (λn=>(st<n/\n<st+(ds.length:Int))\/n=g0\/n=g1\/n=g2) ds/\∀ e h,qV e h ds<=3:=by
 have h1:=yd c 9949 (m:=3) (by decide)
 have h2:=ye c 9949 (m:=3) (by decide)
 have cs:mix c 9949 3=0\/mix c 9949 3=1\/mix c 9949 3=2:=by omega
 rcases hm with rfl|rfl|rfl<;>rcases cs with e|e|e<;>rw [e]
 ·exact zO3 c st g0 g1 g2 e
 ·exact zO4 c st g0 g1 g2 e
 ·exact zO5 c st g0 g1 g2 e
 ·exact zO6 c st g0 g1 g2 e
 ·exact zO7 c st g0 g1 g2 e
 ·exact zO8 c st g0 g1 g2 e
 ·exact zO9 c st g0 g1 g2 e
 ·exact zPA c st g0 g1 g2 e
 ·exact zPB c st g0 g1 g2 e
def zA7 (c m:Int):Int:=1+(1+mix c 9949 3)*(m-2+b2i (zCn c m))+b2i (decide (0<mix c 9931 3))
theorem zUE {c m:Int} (hm:m=2\/m=3\/m=4):zA4 [.int c,.int m]=some (.int (zA7 c m)):=by
 have h1:=yd c 9949 (m:=3) (by decide)
 have h2:=ye c 9949 (m:=3) (by decide)
 have h3 : -18446744073709551616<1+mix c 9949 3:=by omega
 have h4:1+mix c 9949 3<18446744073709551616:=by omega
 exists 0,zA4,zDj,zMm,qi,zA7,b2i,h3,h4,zWX,atI,ixN,ixO
theorem zUF (c here goal m:Int) (hm:m=2\/m=3\/m=4):∃ d,yK [.int c,.int here,.int m,.int goal]=some d/\zn m (λn=>n=here\/n=goal) [d]/\∀ e h,qV e h [d]<=2:=by
 obtain ⟨W,w0,w1,hW,hsr,hw0,hw1,hs⟩:=zUD (c+1)
 have m0:0<m:=by omega
 have m1:0<m-1:=by omega
 have a0:=yd c 9871 m0
 have a1:=ye c 9871 m0
 have b0:=yd c 9859 m1
 have b1:=ye c 9859 m1
 generalize ho:mix c 9871 m=one at a0 a1
 generalize hr:mix c 9859 (m-1)=r at b0 b1
 have h1:0<=one/\one<m:=⟨a0,a1⟩
 have q0:0<=(one+1+r)%m/\(one+1+r)%m<m:=⟨zWU _ (by omega),zWN _ m0⟩
 have n0:one≠(one+1+r)%m:=by rcases hm with rfl|rfl|rfl<;>omega
 have cp:c%2=0\/c%2=1:=by omega
 by_cases e:mix c 9931 3=1
 ·refine' ⟨_,?h1,?g1,?c1⟩
  case h1=>
   exists 0,yK,yq,qi,m0,m1,hW,hs,ho,hr,e,zWm,zVJ,atI,ixN,ixO
   rfl
  case g1=>exact zn.t1 h1 q0 n0 hw0 (by simp) zn.nil
  case c1=>intro e h;simp only [qV,zMq,zUv,zVC];have:=zIv e h one ((one+1+r)%m);omega
 ·rcases cp with cp|cp
  ·refine' ⟨_,?h1,?g1,?c1⟩
   case h1=>
    exists 0,yK,yq,qi,m0,m1,hW,hs,ho,hr,zWm,zVJ,cp,(zVd.mpr e),atI,ixN,ixO
    rfl
   case g1=>exact zn.t2 h1 q0 n0 hsr hw0 hw1 (by simp) (by simp) zn.nil
   case c1=>intro e h;simp only [qV,zMq,zUv,zVC];have:=zIv e h one ((one+1+r)%m);omega
  ·refine' ⟨_,?h1,?g1,?c1⟩
   case h1=>
    exists 0,yK,yq,qi,m0,m1,hW,hs,ho,hr,zWm,zVJ,cp,(zVd.mpr e),atI,ixN,ixO
    rfl
   case g1=>exact zn.t2 h1 q0 n0 hsr hw0 hw1 (by simp) (by simp) zn.nil
   case c1=>intro e h;simp only [qV,zMq,zUv,zVC];have:=zIv e h one ((one+1+r)%m);omega
theorem at0 {α:Type} {a:α} {l:List α}:atI (a::l) 0=some a:=by simp [atI,ixN]
theorem at1 {α:Type} {a b:α} {l:List α}:atI (a::b::l) 1=some b:=by
 unfold atI ixN
 rw [zVE (by decide),zVE (by simp;omega)]
 rfl
theorem at2 {α:Type} {a b c:α} {l:List α}:atI (a::b::c::l) 2=some c:=by
 unfold atI ixN
 rw [zVE (by decide),zVE (by simp;omega)]
 rfl
theorem at3 {α:Type} {a b c d:α} {l:List α}:atI (a::b::c::d::l) 3=some d:=by
 unfold atI ixN
 rw [zVE (by decide),zVE (by simp;omega)]
 rfl
theorem zMu {α:Type} (l:List α) (x:α):atI (l ++ [x]) (-1)=some x:=by
 unfold atI ixN
 rw [zVe (by decide),zVE (by simp;omega)]
 have e:(-1+(((l ++ [x]).length:Nat):Int)).toNat=l.length:=by simp;omega
 rw [zUw,e]
 simp
theorem zF6 {α:Type} {xs:List α} {i:Nat} {x:α} (h:xs[i]?=some x):atI xs (i:Int)=some x:=by
 have hl:=(zU7.mp h).1
 unfold atI ixN
 rw [zVE (by omega),zVE (by omega),zUw]
 simpa using h
theorem zHz {n:Nat} (h:n<=1000000):RD.inR (n:Int)=true:=by
 simp [RD.inR];omega
theorem zAS {f:ROl} {g:D->Rho->Option Rho} {B:ROo} {ρ:Rho} {ds:List D} (h:f ρ=some ds):zi f g B ρ=zc g B ds ρ:=by simp only [zi,h,zUw]
theorem zF7 {f:ROl} {ρ:Rho} {n:Nat} (h:f ρ=some [.int (n:Int)]) (hn:n<=1000000):iR1 f ρ=some (rng 0 n):=by
 unfold iR1
 rw [h,zUw]
 exact (zVE (zHz hn)).trans (by rw [zWj])
theorem zBP {i:Nat} {f:ROd} {ρ:Rho} {d:D} (h:f ρ=some d):qI i f ρ=some (.nx (ρ.set i (.v d))):=by unfold qI;rw [h,zVG]
theorem zSD {f:ROd} {ρ:Rho} {d:D} (h:f ρ=some d):zAC f ρ=some (.rt d):=by unfold zAC;rw [h,zVG]
theorem ix30:ixN 3 0=some 0:=rfl
theorem zSE {S:List Int} {T x:Int} (hS:∀ x∈S,0<=x/\x<=T) (hl:1<=S.length):∃ g,atI (S.map D.int) (mix x 9907 (S.length:Int))=some (.int g)/\0<=g/\g<=T:=by
 have hn:(0:Int)<(S.length:Int):=by omega
 have a0:=yd x 9907 hn
 have a1:=ye x 9907 hn
 obtain ⟨i,hi⟩:∃ i:Nat,mix x 9907 (S.length:Int)=(i:Int):=⟨(mix x 9907 (S.length:Int)).toNat,by omega⟩
 rw [hi] at a1 ⊢
 have hlt:i<S.length:=by omega
 exact ⟨S[i],zF6 (by simp [hlt]),hS _ (zWb _)⟩
theorem zGo {c m:Int} {n:Nat} (hm:m=2\/m=3\/m=4) (h:(n:Int)=1+(1+mix c 9949 3)*(m-2+b2i (zCn c m))):1<=(n:Int)/\(n:Int)<=10/\zA7 c m=(n:Int)+b2i (decide (0<mix c 9931 3)):=by
 have h1:=yd c 9949 (m:=3) (by decide)
 have h2:=ye c 9949 (m:=3) (by decide)
 refine ⟨?_,?_,by rw [h];rfl⟩
 all_goals
  rw [h]
  have cs:mix c 9949 3=0\/mix c 9949 3=1\/mix c 9949 3=2:=by omega
  have bs:b2i (zCn c m)=0\/b2i (zCn c m)=1:=by unfold b2i;split<;>simp
  rcases hm with rfl|rfl|rfl<;>rcases cs with e|e|e<;>rcases bs with e' | e'<;>rw [e,e']<;>decide
theorem zIz {c m:Int} (hm:m=2\/m=3\/m=4):1<=zA7 c m/\zA7 c m<=11:=by
 obtain ⟨ds,_,l,_,_⟩:=zIy c 0 0 0 0 m hm
 obtain ⟨a,b,e⟩:=zGo hm l
 have:b2i (decide (0<mix c 9931 3))=0\/b2i (decide (0<mix c 9931 3))=1:=by unfold b2i;split<;>simp
 omega
theorem zPC {m:Int} (hm:m=2\/m=3\/m=4) {S:List Int} {T:Int} (hS:∀ x∈S,0<=x/\x<=T) (hl:1<=S.length) {k:Nat} {a c:Int} (h1:S[k]?=some a) (h2:S[k+1]?=some (a+zA7 c m)) {ds:List D} (hd:ds.length<=100) (s0 s2 s7 s8:Sl) :
  ∃ es s7' s8',qS [s0,.v (.int m),s2,.l (S.map D.int),.v (.int c),.l ds,.v (.int k),s7,s8]=some (.nx [s0,.v (.int m),s2,.l (S.map D.int),.v (.int c),.l (ds++es),.v (.int k),s7',s8']) /\
   (es.length:Int)=zA7 c m/\zn m (λn=>0<=n/\n<T+1) es/\∀ e h,qV e h es<=5:=by
 have hn:(0:Int)<(S.length:Int):=by omega
 have ha:=hS a (zVF h1)
 have hb:=hS _ (zVF h2)
 obtain ⟨g0,p0,u0⟩:=zSE (x:=c+0) hS hl
 obtain ⟨g1,p1,u1⟩:=zSE (x:=c+7) hS hl
 obtain ⟨g2,p2,u2⟩:=zSE (x:=c+14) hS hl
 have q1:atI (S.map D.int) (k:Int)=some (.int a):=zF6 (by simp [h1])
 have q2:atI (S.map D.int) ((k:Int)+1)=some (.int (a+zA7 c m)):=zF6 (i:=k+1) (by simp [h2])
 by_cases t:0<mix c 9931 3
 ·obtain ⟨es,e1,l1,G1,C1⟩:=zIy c a (a+zA7 c m-1) g1 g2 m hm
  obtain ⟨x,e2,G2,C2⟩:=zUF c (a+zA7 c m-1) g0 m hm
  obtain ⟨y0,y1,y2⟩:=zGo hm l1
  rw [show b2i (decide (0<mix c 9931 3))=1 by simp [b2i,t]] at y2
  have z0:es.length<=10:=by omega
  have z1:ds.length+es.length<=1000000:=by omega
  have z2:ds.length+es.length<16000000:=by omega
  refine ⟨es ++ [x],.v (.lst [.int (a+zA7 c m-1),.int g1,.int g2]),.v (.int g0),?_,by simp;omega,(G1.mono λn h=>by omega).app (G2.mono λn h=>by omega),λe h=>?_⟩
  ·exists 0,qS,qi,hn,p0,p1,p2,q1,q2,e1,e2,t,z1,z2,at0,ix30,r3,Int.add_assoc,zVr,ixO
  ·rw [zEK];have:=C1 e h;have:=C2 e h;omega
 ·obtain ⟨es,e1,l1,G1,C1⟩:=zIy c a g0 g1 g2 m hm
  obtain ⟨y0,y1,y2⟩:=zGo hm l1
  rw [show b2i (decide (0<mix c 9931 3))=0 by simp [b2i,t]] at y2
  have z0:es.length<=10:=by omega
  have z1:ds.length+es.length<=1000000:=by omega
  refine ⟨es,.v (.lst [.int g0,.int g1,.int g2]),.v (.int g0),?_,by omega,G1.mono λn h=>by omega,λe h=>by have:=C1 e h;omega⟩
  exists 0,qS,qi,hn,p0,p1,p2,q1,q2,e1,t,z1,at0,ix30,r3,Int.add_assoc,ixO
def sts (m a:Int):List Int->List Int
 | []=>[a]
 |c::cs=>a::sts m (a+zA7 c m) cs
theorem zMv (m:Int):∀ (cs:List Int) (a:Int),(sts m a cs).length=cs.length+1
 | [],_=>rfl
 |c::cs,a=>by rw [sts,zUv,zMv m cs,zUv]
theorem zQJ {m:Int} (hm:m=2\/m=3\/m=4):∀ (cs:List Int) (a x:Int),x∈sts m a cs->a<=x/\x<=a+11*(cs.length:Int)
 | [],a,x,h=>by simp [sts] at h;subst h;simp
 |c::cs,a,x,h=>by
  have sz:=zIz (c:=c) hm
  rcases zU1.mp h with rfl|h
  ·simp only [zUv];omega
  ·have:=zQJ hm cs _ x h
   simp only [zUv];omega
def tot (m a:Int):List Int->Int
 | []=>a
 |c::cs=>tot m (a+zA7 c m) cs
theorem zQK {m:Int} (hm:m=2\/m=3\/m=4):∀ (cs:List Int) (a:Int),a+cs.length<=tot m a cs/\tot m a cs<=a+11*(cs.length:Int)/\∀ x∈sts m a cs,x<=tot m a cs
 | [],a=>by simp [tot,sts]
 |c::cs,a=>by
  have sz:=zIz (c:=c) hm
  obtain ⟨i1,i2,i3⟩:=zQK hm cs (a+zA7 c m)
  simp only [tot,sts,zUv]
  refine ⟨by omega,by omega,λx hx=>?_⟩
  rcases zU1.mp hx with rfl|hx
  ·omega
  ·exact i3 x hx
theorem zJ2 {m:Int} (hm:m=2\/m=3\/m=4):∀ (cs pre:List Int) (a:Int) (s0 s2 s4 s5 s6 s7 s8:Sl),pre.length+cs.length<=100->∃ s4',zc (gN 4) yu (cs.map D.int) [s0,.v (.int m),s2,.l ((pre ++ [a]).map D.int),s4,s5,s6,s7,s8]=some (.nx [s0,.v (.int m),s2,.l ((pre++sts m a cs).map D.int),s4',s5,s6,s7,s8])
 | [],pre,a,s0,s2,s4,s5,s6,s7,s8,_=>⟨s4,rfl⟩
 |c::cs,pre,a,s0,s2,s4,s5,s6,s7,s8,hl=>by
  rw [zUv] at hl
  obtain ⟨s4',ih⟩:=zJ2 hm cs (pre ++ [a]) (a+zA7 c m) s0 s2 (.v (.int c)) s5 s6 s7 s8 (by simp;omega)
  refine ⟨s4',?_⟩
  have z:=zUE (c:=c) hm
  have la:=zMu (pre.map D.int) (D.int a)
  have z1:pre.length+1<16000000:=by omega
  have st:yu [s0,.v (.int m),s2,.l ((pre ++ [a]).map D.int),.v (.int c),s5,s6,s7,s8]=some (.nx [s0,.v (.int m),s2,.l ((pre ++ [a] ++ [a+zA7 c m]).map D.int),.v (.int c),s5,s6,s7,s8]):=by
   exists 0,yu,zVK,la,z,z1,ixO
  have go:zc (gN 4) yu (D.int c::cs.map D.int) [s0,.v (.int m),s2,.l ((pre ++ [a]).map D.int),s4,s5,s6,s7,s8]=zc (gN 4) yu (cs.map D.int) [s0,.v (.int m),s2,.l ((pre ++ [a] ++ [a+zA7 c m]).map D.int),.v (.int c),s5,s6,s7,s8]:=by
   rw [zc,show gN 4 (D.int c) [s0,.v (.int m),s2,.l ((pre ++ [a]).map D.int),s4,s5,s6,s7,s8]=some [s0,.v (.int m),s2,.l ((pre ++ [a]).map D.int),.v (.int c),s5,s6,s7,s8] from rfl,zUw,st]
   rfl
  rw [zUx,go,ih,sts,zVr]
  rfl
theorem zQL {m:Int} (hm:m=2\/m=3\/m=4) {S:List Int} {T:Int} (hS:∀ x∈S,0<=x/\x<=T) (hl:1<=S.length):∀ (cs:List Int) (k:Nat) (a:Int) (ds:List D) (s0 s2 s4 s6 s7 s8:Sl),S.drop k=sts m a cs->(ds.length:Int)=a->ds.length+11*cs.length<=100->zn m (λn=>0<=n/\n<T+1) ds ->
  ∃ ds' s4' s6' s7' s8',zc (gT 2 (gCs (gN 6) (gCs (gN 4) gNl))) qS (zDb k (cs.map D.int)) [s0,.v (.int m),s2,.l (S.map D.int),s4,.l ds,s6,s7,s8]=some (.nx [s0,.v (.int m),s2,.l (S.map D.int),s4',.l ds',s6',s7',s8']) /\
   (ds'.length:Int)=tot m a cs/\zn m (λn=>0<=n/\n<T+1) ds'/\∀ e h,qV e h ds'<=qV e h ds+5*cs.length
 | [],k,a,ds,s0,s2,s4,s6,s7,s8,_,hd,_,hG=>⟨ds,s4,s6,s7,s8,rfl,hd,hG,λ_ _=>zVA _⟩
 |c::cs,k,a,ds,s0,s2,s4,s6,s7,s8,hk,hd,hb,hG=>by
  have sz:=zIz (c:=c) hm
  rw [zUv] at hb
  have h1:S[k]?=some a:=by
   have:=zVw (λl=>l[0]?) hk
   simpa [sts] using this
  have h2:S[k+1]?=some (a+zA7 c m):=by
   have:=zVw (λl=>l[1]?) hk
   simp only [List.getElem?_drop,sts,zVf] at this
   rw [this]
   cases cs<;>rfl
  have hk':S.drop (k+1)=sts m (a+zA7 c m) cs:=by
   rw [<- List.drop_drop,hk];rfl
  obtain ⟨es,s7',s8',e1,e2,e3,e4⟩:=zPC hm hS hl h1 h2 (ds:=ds) (by omega) s0 s2 s7 s8
  obtain ⟨ds',t4,t6,t7,t8,i1,i2,i3,i4⟩:=zQL hm hS hl cs (k+1) (a+zA7 c m) (ds++es) s0 s2 (.v (.int c)) (.v (.int k)) s7' s8' hk' (by simp;omega) (by simp;omega) (hG.app e3)
  refine ⟨ds',t4,t6,t7,t8,?_,i2,i3,λe h=>?_⟩
  ·rw [zUx,zDb,zc,show gT 2 (gCs (gN 6) (gCs (gN 4) gNl)) (.tup [.int k,.int c]) [s0,.v (.int m),s2,.l (S.map D.int),s4,.l ds,s6,s7,s8]=some [s0,.v (.int m),s2,.l (S.map D.int),.v (.int c),.l ds,.v (.int k),s7,s8] from rfl,zUw,e1]
   exact i1
  ·have a1:=i4 e h
   have a2:=e4 e h
   rw [zEK] at a1
   rw [zUv];omega
theorem zF8 {s1:Sl} (ns:List Int) (ρ:Rho) (hρ:ρ = [.v (.lst (ns.map D.int)),s1,.un,.un,.un,.un,.un,.un,.un,.un]):∀ (is:List Nat),zP (gN 9) (λ_=>some true) (λρ=>((zB (gV 0) (zB (b2 (zR 1) (gR 9) qN) zO)) ρ).bind z7) (is.map λ(i:Nat)=>D.int (0+(i:Int))) ρ=some ((is.map λi=>ns.getD (1+i) 0).map D.int)
 | []=>rfl
 |i::is=>by
  have ih:=zF8 ns ρ hρ is
  subst hρ
  have k:=zMl (ns:=ns) (k:=1+(0+(i:Int))) (by omega)
  rw [show (1+(0+(i:Int))).toNat=1+i by omega,Int.zero_add] at k
  rw [zUx,zP,ih]
  exists k,atI,ixN,ixO,eqO,eqD,eqL,gN,gT,gCs,gNl,zo,zc,neO,dep
theorem zPD (ns:List Int):∃ m ds,(2<=m/\m<=4)/\qa [.lst (ns.map D.int)]=some (.tup [.int m,.tup (ds ++ [.tup [.str "end"]])])/\1<=ds.length/\ds.length<=39/\zn m (λn=>0<=n/\n<(ds.length:Int)+1) ds/\∀ e h,qV e h ds<=15:=by
 have xa:=yd (ns.getD 0 0) 9973 (m:=3) (by decide)
 have xb:=ye (ns.getD 0 0) 9973 (m:=3) (by decide)
 have xc:=yd (ns.getD 0 0) 9967 (m:=3) (by decide)
 have xd:=ye (ns.getD 0 0) 9967 (m:=3) (by decide)
 have k0:z7 [.lst (ns.map D.int),.int 0]=some (.int (ns.getD 0 0)):=zMl (by decide)
 have hm:2+mix (ns.getD 0 0) 9973 3=2\/2+mix (ns.getD 0 0) 9973 3=3\/2+mix (ns.getD 0 0) 9973 3=4:=by omega
 obtain ⟨r,hr⟩:∃ r:Nat,1+mix (ns.getD 0 0) 9967 3=(r:Int):=⟨(1+mix (ns.getD 0 0) 9967 3).toNat,by omega⟩
 have hr3:1<=r/\r<=3:=by omega
 generalize em:2+mix (ns.getD 0 0) 9973 3=m at hm
 have cl:=zF8 (s1:=.v (.int m)) ns _ rfl (List.range r)
 generalize hcs:((List.range r).map λi=>ns.getD (1+i) 0)=cs at cl
 have lc:cs.length=r:=by rw [<- hcs];simp
 obtain ⟨t1,t2,t3⟩:=zQK hm cs 0
 have ls:=zMv m cs 0
 have hS:∀ x∈sts m 0 cs,0<=x/\x<=tot m 0 cs:=λx hx=>⟨(zQJ hm cs 0 x hx).1,t3 x hx⟩
 obtain ⟨s4,l1⟩:=zJ2 hm cs [] 0 (.v (.lst (ns.map D.int))) (.v (.lst (cs.map D.int))) .un .un .un .un .un (by simp;omega)
 obtain ⟨ds,u4,u6,u7,u8,l2,d1,d2,d3⟩:=zQL hm hS (by omega) cs 0 0 [] (.v (.lst (ns.map D.int))) (.v (.lst (cs.map D.int))) s4 .un .un .un rfl rfl (by simp;omega) zn.nil
 have hl:ds.length<=33:=by omega
 have z1:ds.length+1<=1000000:=by omega
 have z2:r<=1000000:=by omega
 refine ⟨m,ds,by omega,?_,by omega,by omega,d2.mono λn h=>by omega,λe h=>by have:=d3 e h;simp only [qV] at this;omega⟩
 rw [zWA,zWA,zUx,zV7] at l1
 have rl:(rng 0 r).length<=1000000:=by simp [rng];omega
 show (zBO [.v (.lst (ns.map D.int)),.un,.un,.un,.un,.un,.un,.un,.un]).bind _=_
 unfold zBO
 rw [zm (ρ':=[.v (.lst (ns.map D.int)),.v (.int m),.un,.un,.un,.un,.un,.un,.un]) ?g1,zm (ρ':=[.v (.lst (ns.map D.int)),.v (.int m),.v (.lst (cs.map D.int)),.un,.un,.un,.un,.un,.un]) ?g2,zm (ρ':=[.v (.lst (ns.map D.int)),.v (.int m),.v (.lst (cs.map D.int)),.l [.int 0],.un,.un,.un,.un,.un]) rfl,zm ((zAS (ds:=cs.map D.int) rfl).trans l1),zm (ρ':=[.v (.lst (ns.map D.int)),.v (.int m),.v (.lst (cs.map D.int)),.l ((sts m 0 cs).map D.int),s4,.l [],.un,.un,.un]) rfl,zm ((zAS (ds:=zDb 0 (cs.map D.int)) rfl).trans l2),zSD (d:=.tup [.int m,.tup (ds ++ [.tup [.str "end"]])]) ?g3]
 ·rfl
 case g1=>
  refine (zBP (d:=.int m) ?_).trans rfl
  exists 0,k0,qi,em,atI,ixN,ixO
 case g2=>
  refine (zBP (d:=.lst (cs.map D.int)) ?_).trans rfl
  have ci:iR1 (zB (b2 (zR 1) (λρ=>((zB (λρ=>((zB (gV 0) (zB (zR 0) zO)) ρ).bind z7) (zB (zR 9967) (zB (zR 3) zO))) ρ).bind zT) qN) zO) [.v (.lst (ns.map D.int)),.v (.int m),.un,.un,.un,.un,.un,.un,.un]=some (rng 0 r):=by
   refine zF7 ?_ z2
   rw [<- hr]
   exists 0,k0,qi,atI,ixN,ixO
  unfold zK
  rw [ci,zUw,zVE rl]
  exact zVw (Option.map D.lst) cl
 case g3=>
  exists 0,z1,atI,ixN,ixO
abbrev zB0:List Str:=["place"]
def zAe:ROo:=(sq (sIf (bB (b2 (b2 (gR 0) (zR 0) ixO) (λ_=>some (D.str "end")) eqO)) (zAC (λρ=>(zO ρ).map D.tup)) (λρ=>some (Out.nx ρ))) (zAC (b2 (gR 0) (zR 3) ixO)))
def yf (ds:List D):Option D:=zDY zB0 zAe ds
theorem zGp {g:D->Rho->Option Rho} {F:ROo} (I:Rho->Prop):∀ {ds:List D} {ρ:Rho},(∀ d∈ds,∀ ρ,I ρ->∃ ρ',(g d ρ).bind F=some (.nx ρ')/\I ρ')->I ρ->∃ ρ',zc g F ds ρ=some (.nx ρ')/\I ρ'
 | [],ρ,_,h=>⟨ρ,rfl,h⟩
 |d::ds,ρ,k,h=>by
  obtain ⟨ρ1,e1,h1⟩:=k d zU0 ρ h
  obtain ⟨ρ2,e2,h2⟩:=zGp I (ds:=ds) (ρ:=ρ1) (λd' hd=>k d' (zUu _ hd)) h1
  refine ⟨ρ2,?_,h2⟩
  obtain ⟨ρ3,e3,e4⟩:=zUs.mp e1
  simp only [zc,e3,zUw,e4,e2]
theorem zB1 {g:D->Rho->Option Rho} {F:ROo} {d:D} {ds:List D} {ρ ρ1 ρ':Rho} (h:g d ρ=some ρ1) (k:F ρ1=some (.nx ρ')):zc g F (d::ds) ρ=zc g F ds ρ':=by simp only [zc,h,k,zUw]
structure ym (m:Int) (ps:List Pl):Prop where
 m0:2<=m
 m1:m<=4
 n0:1<=ps.length
 n1:ps.length<=40
 ok:∀ p∈ps,okP m (λn=>0<=n/\n<(ps.length:Int)) p
def dnD (m:Int) (ps:List Pl):D:=.tup [.int m,.tup (ps.map plD)]
theorem zPE (ns:List Int):∃ m ps,qa [.lst (ns.map D.int)]=some (dnD m ps)/\ym m ps/\(∃ rows,ps=rows ++ [.fin]/\1<=rows.length/\∀ p∈rows,p≠.fin)/\∀ e h,qV e h (ps.map plD)<=15:=by
 obtain ⟨m,ds,hm,e,h1,h2,⟨ps,rfl,h3⟩,h4⟩:=zPD ns
 rw [zU4] at h1 h2 h3
 refine ⟨m,ps ++ [.fin],by rw [e];simp [dnD,plD],⟨hm.1,hm.2,by simp,by simp;omega,λp hp=>?_⟩,⟨ps,rfl,h1,λp hp=>(h3 p hp).2⟩,λe h=>by rw [zVK,zEK];simpa [qV,plD,zMq] using h4 e h⟩
 rw [zU9,zVY]
 rcases zU2.mp hp with hp|hp
 ·exact (h3 p hp).1
 ·simp at hp;subst hp;trivial
def chs:Pl->List (Str×Int)
 |.fin=>[]
 |.tell _ _ ch=>ch
theorem zI0:((Str.ofString "tell" : Str) == Str.ofString "end")=false:=by decide +kernel
theorem zH0 (p:Pl):yf [plD p]=some (.tup ((chs p).map chD)):=by
 cases p with
 |fin=>exists 0,yf,zAe,plD,at0,chs,zVJ,ixO
 |tell a b ch=>exists 0,yf,zAe,plD,at0,at3,chs,zI0,ixO
theorem zMw {ps:List Pl} {n:Int} (h0:0<=n) (h1:n<(ps.length:Int)):∃ p,p∈ps/\ps[n.toNat]?=some p/\atI (ps.map plD) n=some (plD p):=by
 have h2:n.toNat<ps.length:=by omega
 refine ⟨ps[n.toNat],zWb _,by simp [h2],?_⟩
 simp [atI,ixN,h0,h1,h2]
theorem okP.next {m:Int} {P:Int->Prop} {p:Pl} (h:okP m P p) {q:Str×Int} (hq:q∈chs p):P q.2:=by
 cases p with
 |fin=>simp [chs] at hq
 |tell a b ch=>exact h.nx q hq
theorem okP.few {m:Int} {P:Int->Prop} {p:Pl} (h:okP m P p):(chs p).length<=3:=by
 cases p with
 |fin=>simp [chs]
 |tell a b ch=>exact h.l1
theorem yI {α:Type} {g:D->Rho->Option Rho} {p:ROb} {f:ROd} {emb:α->D} {ρ:Rho} (test:α->Bool) (out:α->D) :
  ∀ (xs:List α),(∀ x∈xs,∃ ρ1,g (emb x) ρ=some ρ1/\p ρ1=some (test x)/\(test x=true->f ρ1=some (out x)))->zP g p f (xs.map emb) ρ=some ((xs.filter test).map out)
 | [],_=>rfl
 |x::xs,h=>by
  have ih:=yI test out xs λy hy=>h y (zUu _ hy)
  obtain ⟨ρ1,e1,e2,e3⟩:=h x zU0
  rw [zUx,List.filter_cons]
  show (g (emb x) ρ).bind _=_
  rw [e1,zUw,e2,zUw]
  cases t:test x with
  |true=>rw [zVE rfl,e3 t,zUw,ih,zVE rfl];rfl
  |false=>rw [zVe zVV,ih,zVe zVV]
theorem zSF {α:Type} (f:α->D) (xs:List α) (lo hi:Option Int):∃ ys:List α,zo (xs.map f) lo hi=ys.map f/\ys.length<=xs.length/\∀ y∈ys,y∈xs:=by
 refine ⟨(xs.drop (HT.sIx (xs.map f).length 0 lo)).take (HT.sIx (xs.map f).length (xs.map f).length hi-HT.sIx (xs.map f).length 0 lo),?_,?_,λy hy=>List.mem_of_mem_drop (List.mem_of_mem_take hy)⟩
 ·unfold zo;simp only [List.map_take,List.map_drop]
 ·simp [zXI,zXH];omega
theorem zMx (p:Pl):eqD (plD p) (.tup [.str "end"])=(match p with | .fin=>true|_=>false):=by
 cases p with
 |fin=>simp [plD,eqD,eqL]
 |tell a b ch=>simp [plD,eqD,eqL]
theorem at_ch {ch:List (Str×Int)} {i:Int} (h0:0<=i) (h1:i<(ch.length:Int)):∃ q,q∈ch/\atI (ch.map chD) i=some (chD q):=by
 have h2:i.toNat<ch.length:=by omega
 refine ⟨ch[i.toNat],zWb _,?_⟩
 simp [atI,ixN,h0,h1,h2]
abbrev zB2:List Str:=["place","dancer"]
def zAf:ROo:=(zAC (zOG (b2 (b2 (gR 0) (zR 0) ixO) (λ_=>some (D.str "tell")) eqO) (b2 (gV 1) (λρ=>((zB (b2 (gR 0) (zR 1) ixO) (zB (b2 (gR 0) (zR 2) ixO) zO)) ρ).map D.tup) inO)))
def yg (ds:List D):Option D:=zDY zB2 zAf ds
def zB3:ROb:=(bB (b2 (b1 (gR 5) zEF) (zR 0) gtO))
def zAT:ROo:=(sq (zTp 6 5) (sq (sIf (dIn false 4 (gV 6)) (λρ=>some (Out.ct ρ)) (λρ=>some (Out.nx ρ))) (sq (zOV 4 (gV 6) (λ_=>some (D.bl true))) (sIf (zRH (zLI (λρ=>((zB (b2 (gR 3) (gR 6) ixO) (zB (gV 1) zO)) ρ).bind yg))) (zTr 5 (zK 1 (iT (λρ=>((zB (b2 (gR 3) (gR 6) ixO) zO) ρ).bind yf)) (gN 7) (λ_=>some true) (b2 (gR 7) (zR 1) ixO))) (λρ=>some (Out.nx ρ))))))
abbrev zI1:List Str:=["dance","dancer","some","places","come_to","waiting","number"]
def zI2:ROo:=(sq (qI 3 (b2 (gR 0) (zR 1) ixO)) (sq (zOU 4) (sq (qr 5 (b1F (gR 2) zQA)) (sq (zQB 300 zB3 zAT) (zAC (b1 (λρ=>((zRX 4) ρ).map D.lst) zIO))))))
def qT (ds:List D):Option D:=zDY zI1 zI2 ds
def zAq:ROo:=(zAC (λρ=>((zB (gV 2) (zB (b2 (b2 (b3S (gR 3) (λ_=>some none) (oI (gV 4)) slD) (λρ=>((zB (gV 5) zO) ρ).map D.tup) qN) (b3S (gR 3) (oI (b2 (gR 4) (zR 1) qN)) (λ_=>some none) slD) qN) zO)) ρ).map D.tup))
def zFa:ROo:=(sq (sIf (bB (b2 (gR 6) (zR 4) eqO)) (qI 5 (λρ=>((zB (λ_=>some (D.str "end")) zO) ρ).map D.tup)) (λρ=>some (Out.nx ρ))) zAq)
def zCT:ROo:=(sq (sIf (bB (b2 (gR 6) (zR 3) eqO)) (qI 5 (b2 (b3S (gR 5) (λ_=>some none) (oI (zR 3)) slD) (λρ=>((zB (b3S (b2 (gR 5) (zR 3) ixO) (oI (b1 (zR 1) zP9)) (λ_=>some none) slD) zO) ρ).map D.tup) qN)) (λρ=>some (Out.nx ρ))) zFa)
def zCU:ROo:=(sq (sIf (bB (b2 (gR 6) (zR 2) eqO)) (qI 5 (b2 (b3S (gR 5) (λ_=>some none) (oI (zR 3)) slD) (λρ=>((zB (b2 (b3S (b2 (gR 5) (zR 3) ixO) (λ_=>some none) (oI (b1 (zR 1) zP9)) slD) (λρ=>((zB (λρ=>((zB (b2 (b3S (gR 7) (λ_=>some none) (oI (zR 2)) slD) (λ_=>some (D.str "z")) qN) (zB (gV 8) zO)) ρ).map D.tup) zO) ρ).map D.tup) qN) zO) ρ).map D.tup) qN)) (λρ=>some (Out.nx ρ))) zCT)
def zFb:ROo:=(sq (sIf (bB (b2 (gR 6) (zR 1) eqO)) (qI 5 (λρ=>((zB (λ_=>some (D.str "tell")) (zB (b2 (gR 5) (zR 2) ixO) (zB (b2 (gR 5) (zR 1) ixO) (zB (b2 (gR 5) (zR 3) ixO) zO)))) ρ).map D.tup)) (λρ=>some (Out.nx ρ))) zCU)
def qd:ROo:=(sq (sIf (bB (b2 (gR 6) (zR 0) eqO)) (qI 5 (b2 (b3S (gR 5) (λ_=>some none) (oI (zR 3)) slD) (λρ=>((zB (b2 (b3S (b2 (gR 5) (zR 3) ixO) (λ_=>some none) (oI (b1 (zR 1) zP9)) slD) (λρ=>((zB (λρ=>((zB (gV 7) (zB (λρ=>((zB (gV 1) (zB (zR 9833) (zB (b1 (gR 3) zEF) zO))) ρ).bind zT) zO)) ρ).map D.tup) zO) ρ).map D.tup) qN) zO) ρ).map D.tup) qN)) (λρ=>some (Out.nx ρ))) zFb)
def qe:ROo:=(sq (qI 6 (λρ=>((zB (gV 1) (zB (zR 9839) (zB (zR 5) zO))) ρ).bind zT)) (sq (zP4 (b2 (b2 (gR 5) (zR 3) ixO) (b1 (zR 1) zP9) ixO) (gT 2 (gCs (gN 7) (gCs (gN 8) gNl)))) qd))
abbrev zB4:List Str:=["_law_dance_here","_law_cell_here","_law_many","_law_places","_law_at","_law_place","_law_kind","_law_word_here","_law_after"]
def zAg:ROo:=(sq (zP4 (gV 0) (gT 2 (gCs (gN 2) (gCs (gN 3) gNl)))) (sq (qI 4 (λρ=>((zB (gV 1) (zB (zR 9857) (zB (b1 (gR 3) zEF) zO))) ρ).bind zT)) (sq (qI 5 (b2 (gR 3) (gR 4) ixO)) (sq (sIf (bB (b2 (gR 5) (λρ=>((zB (λ_=>some (D.str "end")) zO) ρ).map D.tup) eqO)) (qI 5 (λρ=>((zB (λ_=>some (D.str "tell")) (zB (b2 (gR 1) (gR 2) zHb) (zB (b2 (b2 (gR 1) (zR 1) qN) (gR 2) zHb) (zB (λρ=>((zB (λρ=>((zB (λ_=>some (D.str "z")) (zB (λρ=>((zB (gV 1) (zB (zR 9851) (zB (b1 (gR 3) zEF) zO))) ρ).bind zT) zO)) ρ).map D.tup) zO) ρ).map D.tup) zO)))) ρ).map D.tup)) (λρ=>some (Out.nx ρ))) qe))))
def qK (ds:List D):Option D:=zDY zB4 zAg ds
theorem zPF (l:List D) (x:D):zo (l ++ [x]) none (some (-1))=l:=by
 have e:(-1+((l.length:Int)+1)).toNat=l.length:=by omega
 simp [zo,HT.sIx,e]
theorem zPG (l:List D) (x:D):zo (l ++ [x]) (some (-1)) none = [x]:=by
 have e:(-1+((l.length:Int)+1)).toNat=l.length:=by omega
 simp [zo,HT.sIx,e]
theorem zPH (l:List D) (k:Nat) (h:k<=l.length):zo l none (some (k:Int))=l.take k:=by
 have:¬ ((k:Int)<0):=by omega
 simp [zo,HT.sIx,this,Nat.min_eq_left h]
theorem zPI (l:List D) (k:Nat) (h:k<=l.length):zo l (some (k:Int)) none=l.drop k:=by
 have:¬ ((k:Int)<0):=by omega
 simp only [zo,HT.sIx,this,zV8,zWj,Nat.min_eq_left h]
 rw [List.take_of_length_le (by simp)]
theorem zMy {α:Type} {l:List α} (h:1<=l.length):∃ ini x,l=ini ++ [x]:=by
 have hn:l≠[]:=by intro e;subst e;simp at h
 exact ⟨l.dropLast,l.getLast hn,(List.dropLast_concat_getLast hn).symm⟩
theorem zUG (w:Str):Txt.slice w none (some 2)=⟨(w.cps.toList.take 2).toArray⟩:=by
 obtain ⟨⟨l⟩⟩:=w
 match l with
 | []=>rfl
 |[a]=>
  have e:Builtin.Str.strSliceIndices none (some 2) 1 1 = [0]:=by decide +kernel
  simp [Txt.slice,Str.length,e]
 |a::b::l=>exact zF5 (a::b::l) 2 (by simp)
def wz (w:Str):Str:=⟨(w.cps.toList.take 2 ++ [122]).toArray⟩
theorem z_str:(Str.ofString "z")=⟨[122].toArray⟩:=by decide +kernel
theorem wz_ok {w:Str} (h:okW w):okW (wz w):=by
 obtain ⟨h1,h2,h3⟩:=h
 obtain ⟨⟨l⟩⟩:=w
 simp only [Str.length,zU3] at h1 h2
 simp only at h3
 refine ⟨by simp [wz,Str.length],by simp [wz,Str.length];omega,λx hx=>?_⟩
 simp [wz] at hx
 rcases hx with hx|rfl
 ·exact h3 x (List.mem_of_mem_take hx)
 ·decide
theorem okz:okW (Str.ofString "z"):=by
 rw [z_str]
 exact ⟨by decide,by decide,λx hx=>by simp at hx;subst hx;decide⟩
theorem wz_ge {w v:Str} (h:okW w) (k:Lt v w):Lt v (wz w):=by
 obtain ⟨h1,h2,h3⟩:=h
 obtain ⟨⟨l⟩⟩:=w
 simp only [Str.length,zU3] at h1 h2
 simp only at h3
 by_cases e:(⟨⟨l⟩⟩:Str)=wz ⟨⟨l⟩⟩
 ·rw [<- e];exact k
 ·refine k.trans (Lt.total ?_ e)
  rw [Lt.def]
  match l with
  | []=>simp at h1
  | [a]=>simp [wz]
  | [a,b]=>simp [wz]
  |[a,b,c]=>
   have hc:=(h3 c (by simp)).2
   simp only [wz,List.take_succ_cons,List.take_zero,zVy,zWA]
   intro q
   simp only [List.cons_lt_cons_iff,zWE,false_or,true_and] at q
   rcases q with q|q
   ·omega
   ·exact absurd q.2 (List.lt_irrefl _)
  |a::b::c::d::l=>simp at h2
theorem ym.set {m:Int} {ps:List Pl} (h:ym m ps) (k:Nat) (p:Pl) (hp:okP m (λn=>0<=n/\n<(ps.length:Int)) p):ym m (ps.set k p):=by
 refine ⟨h.m0,h.m1,by simpa using h.n0,by simpa using h.n1,λq hq=>?_⟩
 rw [List.length_set]
 rcases List.mem_or_eq_of_mem_set hq with hq|rfl
 ·exact h.ok q hq
 ·exact hp
theorem zUH (ps:List Pl) (k:Nat) (p:Pl) (h:k<ps.length):(ps.map plD).take k++([plD p]++(ps.map plD).drop (k+1))=(ps.set k p).map plD:=by
 rw [List.set_eq_take_append_cons_drop,zVE h]
 simp
theorem zI3 {l:List Str} {w w':Str} (h:ya (l ++ [w])) (k:∀ v,Lt v w->Lt v w'):ya (l ++ [w']):=by
 rw [ya,List.pairwise_append] at h ⊢
 refine ⟨h.1,by simp,λa ha b hb=>?_⟩
 simp at hb
 subst hb
 exact k a (h.2.2 a ha w (by simp))
theorem zB5 {A B:ROd} {op:D->D->Option D} {ρ:Rho} {a b:D} {r:Option D} (h1:A ρ=some a) (h2:B ρ=some b) (h:op a b=r):b2 A B op ρ=r:=by
 rw [<- h];simp only [b2,h1,h2,zUw]
theorem zPJ {c:ROb} {F F':ROo} {ρ:Rho} {r:Option Out} (h:c ρ=some true) (k:F ρ=r):sIf c F F' ρ=r:=by
 rw [<- k];simp only [sIf,h,zUw,zVp]
theorem zSG {l r:List D} (h:l.length+r.length<=1000000):qN (.tup l) (.tup r)=some (.tup (l++r)):=zVE h
theorem add_s {l r:Str} (h:l.length+r.length<=1000000):qN (.str l) (.str r)=some (.str (l++r)):=zVE h
theorem zUI {A:ROd} {ρ:Rho} {a:D} (h:A ρ=some a):((zB A zO) ρ).map D.tup=some (.tup [a]):=by simp only [zB,h,zUw,zVG]
theorem zSH {A B:ROd} {ρ:Rho} {a b:D} (h:A ρ=some a) (k:B ρ=some b):((zB A (zB B zO)) ρ).map D.tup=some (.tup [a,b]):=by simp only [zB,h,k,zUw,zVG]
theorem zQM {f:ROd} {g:D->Rho->Option Rho} {ρ ρ':Rho} {d:D} (h:f ρ=some d) (k:g d ρ=some ρ'):zP4 f g ρ=some (.nx ρ'):=by simp only [zP4,h,k,zUw,zVG]
theorem zUJ {m:Int} {ps:List Pl} (h:ym m ps) {at':Nat} (hat:at' < ps.length) (p:Pl) {d:D} (hd:plD p=d) {s0 s1 s6 s7 s8:Sl} :
  zAq [s0,s1,.v (.int m),.v (.tup (ps.map plD)),.v (.int at'),.v d,s6,s7,s8]=some (.rt (dnD m (ps.set at' p))):=by
 subst hd
 have hps:=h.n1
 have l1:((ps.map plD).take at').length<=40:=by simp;omega
 have l2:((ps.map plD).drop (at'+1)).length<=40:=by simp;omega
 have e:=zSH (ρ:=[s0,s1,.v (.int m),.v (.tup (ps.map plD)),.v (.int at'),.v (plD p),s6,s7,s8]) (A:=λρ=>zOE ρ 2) (a:=.int m) rfl (zB5 (op:=qN) (zB5 (op:=qN) (A:=b3S (gR 3) (λ_=>some none) (oI (gV 4)) slD) (B:=λρ=>((zB (gV 5) zO) ρ).map D.tup)
  (Eq.trans (by kernel_rfl) (zVw (λz=>some (D.tup z)) (zPH (ps.map plD) at' (by simp;omega)))) rfl (zSG (r:=[plD p]) (by simp only [zVY];omega)))
  (B:=b3S (gR 3) (oI (b2 (gR 4) (zR 1) qN)) (λ_=>some none) slD) (Eq.trans (by kernel_rfl) (zVw (λz=>some (D.tup z)) (zPI (ps.map plD) (at'+1) (by simp;omega)))) (zSG (by simp only [zU9,zVY];omega)))
 rw [zVr,zUH ps at' p hat] at e
 exact zVw (Option.map Out.rt) e
theorem zMz {E:ROd} {e k a b x:D} {s0 s1 s2 s3 s4 s6 s7 s8:Sl} (hE:E [s0,s1,s2,s3,s4,.v (.tup [k,a,b,x]),s6,s7,s8]=some e) :
  qI 5 (b2 (b3S (gR 5) (λ_=>some none) (oI (λ_=>some (.int 3))) slD) (λρ=>((zB E zO) ρ).map .tup) qN) [s0,s1,s2,s3,s4,.v (.tup [k,a,b,x]),s6,s7,s8]=some (.nx [s0,s1,s2,s3,s4,.v (.tup [k,a,b,e]),s6,s7,s8]):=
 zBP (zB5 (a:=.tup [k,a,b]) (by kernel_rfl) (zUI hE) (by kernel_rfl))
theorem zQN {k a b x y:D} {l:List D} {B:ROd} {s0 s1 s2 s3 s4 s6 s7 s8:Sl} (hl:l.length<=3) (h:B [s0,s1,s2,s3,s4,.v (.tup [k,a,b,.tup (l ++ [x])]),s6,s7,s8]=some y) :
  b2 (b3S (b2 (gR 5) (zR 3) ixO) (λ_=>some none) (oI (b1 (zR 1) zP9)) slD) (λρ=>((zB B zO) ρ).map D.tup) qN [s0,s1,s2,s3,s4,.v (.tup [k,a,b,.tup (l ++ [x])]),s6,s7,s8]=some (.tup (l ++ [y])):=
 zB5 (a:=.tup l) (Eq.trans (by kernel_rfl) (zVw (λz=>some (D.tup z)) (zPF l x))) (zUI h) (zSG (by simp only [zVY];omega))
theorem sk2 (s0 s1 s2 s3 s4 s5 s7 s8:Sl):qd [s0,s1,s2,s3,s4,s5,.v (.int 2),s7,s8]=zCU [s0,s1,s2,s3,s4,s5,.v (.int 2),s7,s8]:=by kernel_rfl
theorem sk3 (s0 s1 s2 s3 s4 s5 s7 s8:Sl):qd [s0,s1,s2,s3,s4,s5,.v (.int 3),s7,s8]=zCT [s0,s1,s2,s3,s4,s5,.v (.int 3),s7,s8]:=by kernel_rfl
theorem zM0 {m c:Int} {ps:List Pl} (h:ym m ps) {a b x:Int} {ini:List (Str×Int)} {w:Str} (k:okT m (λn=>0<=n/\n<(ps.length:Int)) a b (ini ++ [(w,x)])) (at':Nat) (hat:at' < ps.length) :
  ∃ p,okP m (λn=>0<=n/\n<(ps.length:Int)) p/\qe [.v (dnD m ps),.v (.int c),.v (.int m),.v (.tup (ps.map plD)),.v (.int at'),.v (plD (.tell a b (ini ++ [(w,x)]))),.un,.un,.un]=some (.rt (dnD m (ps.set at' p))):=by
 have hn:(0:Int)<(ps.length:Int):=by omega
 have y1:0<=mix c 9833 (ps.length:Int)/\mix c 9833 (ps.length:Int)<(ps.length:Int):=⟨yd _ _ hn,ye _ _ hn⟩
 have hw:okW w:=k.wd (w,x) (by simp)
 have ki:∀ q∈ini,q∈ini ++ [(w,x)]:=λq hq=>zVi _ hq
 have l1:=k.l1
 have rs:=k.rs
 simp only [zU9,zVY,zVK,zUx,zV7] at l1 rs
 have li:(ini.map chD).length<=3:=by simp;omega
 have hl:w.length<=1000000:=by have:=hw.2.1;omega
 have l2:(w.cps.toList.take 2).length<=2:=List.length_take_le 2 _
 have e3:∀ y,(ini ++ [y]).map chD=ini.map chD ++ [chD y]:=λy=>by simp
 have hp:∀ y,plD (.tell a b (ini ++ [y])) = .tup [.str "tell",.int a,.int b,.tup (ini.map chD ++ [chD y])]:=λy=>by rw [<- e3];rfl
 have st:qe [.v (dnD m ps),.v (.int c),.v (.int m),.v (.tup (ps.map plD)),.v (.int at'),.v (plD (.tell a b (ini ++ [(w,x)]))),.un,.un,.un]=qd [.v (dnD m ps),.v (.int c),.v (.int m),.v (.tup (ps.map plD)),.v (.int at'),.v (.tup [.str "tell",.int a,.int b,.tup (ini.map chD ++ [.tup [.str w,.int x]])]),.v (.int (mix c 9839 5)),.v (.str w),.v (.int x)]:=by
  rw [hp]
  refine (zm (ρ':=[.v (dnD m ps),.v (.int c),.v (.int m),.v (.tup (ps.map plD)),.v (.int at'),.v (.tup [.str "tell",.int a,.int b,.tup (ini.map chD ++ [chD (w,x)])]),.v (.int (mix c 9839 5)),.un,.un]) (zBP (qi (by decide) (by decide)))).trans (zm ?_)
  exact zQM (zB5 (a:=.tup (ini.map chD ++ [chD (w,x)])) (b:=.int (-1)) (by kernel_rfl) rfl (zMu _ _)) rfl
 rw [st]
 have rt:∀ (i:Int) (p:Pl) {d:D},plD p=d->zAq [.v (dnD m ps),.v (.int c),.v (.int m),.v (.tup (ps.map plD)),.v (.int at'),.v d,.v (.int i),.v (.str w),.v (.int x)]=some (.rt (dnD m (ps.set at' p))):=λi p d hd=>zUJ h hat p hd
 have e0:=yd c 9839 (m:=5) (by decide)
 have e1:=ye c 9839 (m:=5) (by decide)
 have cs:mix c 9839 5=0\/mix c 9839 5=1\/mix c 9839 5=2\/mix c 9839 5=3\/mix c 9839 5=4:=by omega
 have li':1<=ini.length+1:=by omega
 rcases cs with e|e|e|e|e<;>rw [e]
 ·have hm:zT [.int c,.int 9833,.int ((ps.map plD).length:Int)]=some (.int (mix c 9833 ps.length)):=by rw [zU4];exact qi (by decide) hn
  refine ⟨.tell a b (ini ++ [(w,mix c 9833 (ps.length:Int))]),⟨k.a0,k.a1,k.b0,k.b1,k.ne,by simp,by simpa using l1,by simpa using rs,λq hq=>?_,λq hq=>?_⟩,
   (zm (zPJ (by kernel_rfl) (zMz (zQN li (zSH (a:=.str w) rfl (Eq.trans (by kernel_rfl) hm)))))).trans (Eq.trans (by kernel_rfl) (rt 0 _ (hp _)))⟩
  ·rcases zU2.mp hq with hq|hq
   ·exact k.wd q (ki q hq)
   ·cases zUy.mp hq;exact hw
  ·rcases zU2.mp hq with hq|hq
   ·exact k.nx q (ki q hq)
   ·cases zUy.mp hq;exact y1
 ·exact ⟨.tell b a (ini ++ [(w,x)]),⟨k.b0,k.b1,k.a0,k.a1,λe=>k.ne e.symm,k.l0,k.l1,k.rs,k.wd,k.nx⟩,Eq.trans (by kernel_rfl) (rt 1 _ (zVw (λl=>D.tup [.str "tell",.int b,.int a,.tup l]) (e3 (w,x))))⟩
 ·refine ⟨.tell a b (ini ++ [(wz w,x)]),⟨k.a0,k.a1,k.b0,k.b1,k.ne,by simp,by simpa using l1,by simpa using zI3 rs (λv hv=>wz_ge hw hv),λq hq=>?_,λq hq=>?_⟩,
   (sk2 ..).trans ((zm (zPJ (by kernel_rfl) (zMz (zQN li (zSH (a:=.str (wz w)) ?_ rfl))))).trans (Eq.trans (by kernel_rfl) (rt 2 _ (hp _))))⟩
  ·rcases zU2.mp hq with hq|hq
   ·exact k.wd q (ki q hq)
   ·cases zUy.mp hq;exact wz_ok hw
  ·rcases zU2.mp hq with hq|hq
   ·exact k.nx q (ki q hq)
   ·cases zUy.mp hq;exact k.nx (w,x) (by simp)
  ·exact zB5 (a:=.str (Txt.slice w none (some 2))) (b:=.str (Str.ofString "z")) (zVE hl) rfl (by
    rw [zUG,z_str]
    exact (add_s (by rw [zIs,zIs];exact zVb (Nat.add_le_add_right l2 1) (by decide))).trans (by rw [zMn];rfl))
 ·exact ⟨.tell a b [(w,x)],⟨k.a0,k.a1,k.b0,k.b1,k.ne,by simp,by simp,by simp,λq hq=>k.wd q (by simp at hq;simp [hq]),λq hq=>k.nx q (by simp at hq;simp [hq])⟩,
   (sk3 ..).trans ((zm (zPJ (by kernel_rfl) (zMz (Eq.trans (by kernel_rfl) (zVw (λz=>some (D.tup z)) (zPG (ini.map chD) (.tup [.str w,.int x]))))))).trans (Eq.trans (by kernel_rfl) (rt 3 _ rfl)))⟩
 ·exact ⟨.fin,trivial,Eq.trans (by kernel_rfl) (rt 4 .fin rfl)⟩
theorem zM1 {m:Int} {ps:List Pl} (h:ym m ps) (c:Int):∃ ps',ym m ps'/\ps'.length=ps.length/\(∃ k p,ps'=ps.set k p/\(chs p).length<=3)/\qK [dnD m ps,.int c]=some (dnD m ps'):=by
 have hn:(0:Int)<(ps.length:Int):=by have:=h.n0;omega
 have a0:=yd c 9857 hn
 have a1:=ye c 9857 hn
 obtain ⟨at',hat⟩:∃ at':Nat,mix c 9857 (ps.length:Int)=(at':Int):=⟨(mix c 9857 (ps.length:Int)).toNat,by omega⟩
 rw [hat] at a0 a1
 have hl:at' < ps.length:=by omega
 obtain ⟨p,hp,e1,e2⟩:=zMw a0 a1
 have ok:=h.ok p hp
 have m0:0<m:=by have:=h.m0;omega
 have fin:∀ a b ch,okT m (λn=>0<=n/\n<(ps.length:Int)) a b ch->∃ p,okP m (λn=>0<=n/\n<(ps.length:Int)) p/\qe [.v (dnD m ps),.v (.int c),.v (.int m),.v (.tup (ps.map plD)),.v (.int at'),.v (plD (.tell a b ch)),.un,.un,.un]=some (.rt (dnD m (ps.set at' p))):=λa b ch k=>by
  obtain ⟨ini,⟨w,x⟩,rfl⟩:=zMy k.l0
  exact zM0 h k at' hl
 cases p with
 |fin=>
  have y0:=yd c 9851 hn
  have y1:=ye c 9851 hn
  have q1:c%m≠(c+1)%m:=by
   have:=h.m0;have:=h.m1
   have:m=2\/m=3\/m=4:=by omega
   rcases this with rfl|rfl|rfl<;>omega
  obtain ⟨p',hp',ef⟩:=fin (c%m) ((c+1)%m) [(Str.ofString "z",mix c 9851 (ps.length:Int))] ⟨zWU _ (by omega),zWN _ m0,zWU _ (by omega),zWN _ m0,q1,by simp,by simp,by simp,by simpa using okz,by simpa using ⟨y0,y1⟩⟩
  refine ⟨_,h.set at' p' hp',by simp,⟨_,_,rfl,hp'.few⟩,?_⟩
  simp only [dnD,plD,zUx,zV7,chD] at ef e2 ⊢
  exists qK,zAg,qi,hn,hat,e2,m0,zVJ,ef,ixO,eqO,eqD,eqL,zP,gN,gT,gCs,gNl,zc,neO,dep
 |tell a b ch=>
  obtain ⟨p',hp',ef⟩:=fin a b ch ok
  refine ⟨_,h.set at' p' hp',by simp,⟨_,_,rfl,hp'.few⟩,?_⟩
  have ne1:eqO (plD (.tell a b ch)) (.tup [.str "end"])=some (.bl false):=by
   have hd:dep (.tup [.str "end"])<=20:=by decide
   unfold eqO;rw [zVE (by omega),zMx]
  simp only [dnD] at ef ⊢
  exists qK,zAg,qi,hn,hat,e2,ne1,ef,ixO,eqD,eqL,zP,gN,gT,gCs,gNl,zc,neO,dep
def tp (p:Pl) (d:Int):Bool:=match p with
 |.fin=>false
 |.tell a b _=>decide (d=a) || decide (d=b)
theorem zPK:((Str.ofString "end" : Str) == Str.ofString "tell")=false:=by decide +kernel
theorem in2 (d a b:Int):inO (.int d) (.tup [.int a,.int b])=some (.bl (decide (d=a) || decide (d=b))):=by
 have e1:(a == d)=decide (d=a):=by rw [zWf];exact zXL.mpr ⟨λh=>h.symm,λh=>h.symm⟩
 have e2:(b == d)=decide (d=b):=by rw [zWf];exact zXL.mpr ⟨λh=>h.symm,λh=>h.symm⟩
 have f1:eqD (.int a) (.int d)=(a == d):=by unfold eqD;rfl
 have f2:eqD (.int b) (.int d)=(b == d):=by unfold eqD;rfl
 unfold inO
 rw [zVE (by simp [dep])]
 show some (D.bl (eqD (.int a) (.int d) || (eqD (.int b) (.int d) || false)))=_
 rw [f1,f2,e1,e2,zWv]
theorem zI4 (p:Pl) (d:Int):yg [plD p,.int d]=some (.bl (tp p d)):=by
 cases p with
 |fin=>exists 0,yg,zAf,plD,at0,tp,zPK,ixO
 |tell a b ch=>
  exists 0,yg,zAf,plD,at0,at1,at2,tp,zVJ,in2,ixO
def zI5 (ps:List Pl) (d n:Int):List Int:=match ps[n.toNat]? with
 |some p=>if tp p d then [] else (chs p).map (·.2)
 |none=>[]
def run (ps:List Pl) (d:Int):Nat->List Int->List Int->Option (List Int)
 |0,_,_=>none
 |k+1,found,ws=>match ws.getLast? with
  |none=>some found
  |some n=>if n∈found then run ps d k found ws.dropLast else run ps d k (found ++ [n]) (ws.dropLast++zI5 ps d n)
theorem zH1 {c:ROb} {F:ROo} {k:Nat} {ρ ρ':Rho} (h:c ρ=some true) (e:F ρ=some (.nx ρ')\/F ρ=some (.ct ρ')):zBd c F (k+1) ρ=zBd c F k ρ':=by
 rcases e with e|e<;>simp only [zBd,h,zUw,zVp,e]
theorem zKx {c:ROb} {F:ROo} {k:Nat} {ρ:Rho} (h:c ρ=some false):zBd c F (k+1) ρ=some (.nx ρ):=by
 simp [zBd,h]
theorem zEL {α:Type} {ws:List α} {n:α} (h:ws.getLast?=some n):ws=ws.dropLast ++ [n]/\0<ws.length:=by
 obtain ⟨ys,rfl⟩:=List.getLast?_eq_some_iff.mp h
 simp
def tk (found:List Int):List (Key×D):=found.map λn=>(Sum.inl n,D.bl true)
theorem zM2 (n:Int):∀ (found:List Int),(zC2 (tk found) (.inl n)).isSome=decide (n∈found)
 | []=>rfl
 |x::found=>by
  have ih:=zM2 n found
  unfold zC2 tk at ih ⊢
  simp only [zUx,zVU]
  by_cases e:x=n
  ·subst e;simp
  ·have e':¬ (Sum.inl x:Key)=Sum.inl n:=λz=>e (by simpa using z)
   have e2:¬ n=x:=λz=>e z.symm
   simp only [e',zV2,zU1,e2,false_or]
   exact ih
theorem zQO {n:Int} {found:List Int} (h:n∉found):zKo (tk found) (.inl n) (.bl true)=tk (found ++ [n]):=by
 unfold zKo
 rw [zVe]
 ·simp [tk]
 ·simp [tk]
  exact h
def Inn (ps:List Pl) (ws:List Int):Prop:=∀ n∈ws,0<=n/\n<(ps.length:Int)
theorem zM3 {m:Int} {ps:List Pl} (h:ym m ps) (d n:Int):Inn ps (zI5 ps d n)/\(zI5 ps d n).length<=3:=by
 unfold zI5
 split
 ·rename_i p e
  have ok:=h.ok p (zVF e)
  split
  ·exact ⟨λ_ h=>by simp at h,by simp⟩
  ·refine ⟨λx hx=>?_,by simpa using ok.few⟩
   obtain ⟨q,hq,rfl⟩:=zVT.mp hx
   exact ok.next hq
 ·exact ⟨λ_ h=>by simp at h,by simp⟩
theorem zPL (ρ:Rho) (hl:ρ.length=7) (ch:List (Str×Int)):zP (gN 7) (λ_=>some true) (b2 (gR 7) (zR 1) ixO) (ch.map chD) (ρ ++ [.un])=some ((ch.map (·.2)).map D.int):=by
 have:=yI (g:=gN 7) (p:=λ_=>some true) (f:=b2 (gR 7) (zR 1) ixO) (emb:=chD) (ρ:=ρ ++ [.un]) (λ_=>true) (λq=>D.int q.2) ch λq _=>by
  refine ⟨_,rfl,rfl,λ_=>?_⟩
  have e:((ρ ++ [Sl.un]).set 7 (.v (chD q)))[7]?=some (.v (chD q)):=zVQ (by simp [hl])
  simp only [chD] at e ⊢
  exists 0,at1,e,ixO
 rw [this,zWK.mpr (by simp),zVt]
 rfl
theorem zKy {m:Int} {ps:List Pl} (h:ym m ps) {d:Int} {s0 s2 s6:Sl} {found ws:List Int} {n:Int} (hf:found.length<=1000) (hw:ws.length<=1000) (hl:ws.getLast?=some n) (hn:0<=n/\n<(ps.length:Int)) :
  (zAT [s0,.v (.int d),s2,.v (.tup (ps.map plD)),.m (tk found),.l (ws.map D.int),s6]=some (.nx [s0,.v (.int d),s2,.v (.tup (ps.map plD)),.m (tk (if n∈found then found else found ++ [n])),.l ((if n∈found then ws.dropLast else ws.dropLast++zI5 ps d n).map D.int),.v (.int n)]) \/
  zAT [s0,.v (.int d),s2,.v (.tup (ps.map plD)),.m (tk found),.l (ws.map D.int),s6]=some (.ct [s0,.v (.int d),s2,.v (.tup (ps.map plD)),.m (tk (if n∈found then found else found ++ [n])),.l ((if n∈found then ws.dropLast else ws.dropLast++zI5 ps d n).map D.int),.v (.int n)])):=by
 obtain ⟨p,hp,e1,e2⟩:=zMw hn.1 hn.2
 have ok:=h.ok p hp
 obtain ⟨ew,hpos⟩:=zEL hl
 have g1:(ws.map D.int)[ws.length-1]?=some (.int n):=by
  rw [zVc,<- List.getLast?_eq_getElem?,hl];rfl
 have gt:=zM2 n found
 have tl:(tk found).length<1000000:=by simp [tk];omega
 have hd:(ws.map D.int).dropLast=ws.dropLast.map D.int:=by rw [List.map_dropLast]
 have few:=ok.few
 have hl3:(chs p).length<=1000000:=by omega
 have hl4:ws.length-1+(chs p).length<=1000000:=by omega
 by_cases hm:n∈found
 ·right
  rw [zVz hm] at gt
  simp only [hm,zVp]
  exists 0,zAT,zTp,g1,zFs,gt,hd,ixO
 ·left
  rw [zVh hm] at gt
  have pt:=zQO hm
  simp only [hm,zV8]
  cases ht:tp p d with
  |true=>
   have eo:zI5 ps d n = []:=by simp [zI5,e1,ht]
   exists 0,zAT,zTp,g1,zFs,gt,tl,pt,hd,e2,zI4,ht,eo,ixO
  |false=>
   have eo:zI5 ps d n=(chs p).map (·.2):=by simp [zI5,e1,ht]
   have cs:=zPL [s0,.v (.int d),s2,.v (.tup (ps.map plD)),.m (tk (found ++ [n])),.l (ws.dropLast.map D.int),.v (.int n)] rfl (chs p)
   unfold zAT
   generalize (b2 (gR 7) (zR 1) ixO)=el at cs ⊢
   simp only [zVy,zWA] at cs
   exists zTp,g1,zFs,gt,tl,pt,hd,e2,zI4,ht,eo,zTr,zH0,hl3,cs,zWo,hl4,zVK,ixO,eqO,eqD,eqL,gN,gT,gCs,gNl,zo,zc,neO,dep
def unv (n:Nat) (found:List Int):Nat:=(List.range n).countP λ(i:Nat)=>!decide ((i:Int)∈found)
theorem zE4 {α:Type} {p q:α->Bool}:∀ {l:List α} {x:α},(∀ y∈l,q y=true->p y=true)->x∈l->p x=true->q x=false->l.countP q+1<=l.countP p
 | [],x,_,hx,_,_=>by simp at hx
 |y::l,x,h,hx,h1,h2=>by
  rw [List.countP_cons,List.countP_cons]
  have mono:l.countP q<=l.countP p:=List.countP_mono_left λz hz hq=>h z (zUu _ hz) hq
  rcases zU1.mp hx with rfl|hx
  ·rw [h1,h2];simp;exact mono
  ·have ih:=zE4 (l:=l) (λz hz=>h z (zUu _ hz)) hx h1 h2
   have hy:=h y zU0
   cases e:q y with
   |true=>rw [hy e];simp;omega
   |false=>simp;split<;>omega
theorem zPM {n:Nat} {found:List Int} {k:Int} (h0:0<=k) (h1:k<(n:Int)) (h:k∉found):unv n (found ++ [k])+1<=unv n found:=by
 refine zE4 (x:=k.toNat) (λy _ hy=>?_) (by simp;omega) ?_ ?_
 ·simp at hy ⊢
  exact hy.1
 ·have:((k.toNat:Nat):Int)=k:=by omega
  simp [this,h]
 ·have:((k.toNat:Nat):Int)=k:=by omega
  simp [this]
theorem zUK (n:Nat) (found:List Int):unv n found<=n:=by
 have:=List.countP_le_length (l:=List.range n) (p:=λ(i:Nat)=>!decide ((i:Int)∈found))
 simpa [unv] using this
theorem T_ap {s0 s1 s2 s3 s4 s6:Sl} {ws:List Int}:zB3 [s0,s1,s2,s3,s4,.l (ws.map D.int),s6]=some (decide (0<ws.length)):=by
 exists 0,zB3,ixO
 congr 1
 exact zXL.mpr (by omega)
theorem zD2 {ws:List Int} (h:ws.getLast?=none):ws = []:=by
 cases ws with
 |nil=>rfl
 |cons a l=>simp [List.getLast?_cons] at h
theorem zSI {m:Int} {ps:List Pl} (h:ym m ps) (d:Int):∀ (k:Nat) (found ws:List Int),Inn ps ws->found.length+unv ps.length found<=40->4*unv ps.length found+ws.length<k->k<=1000->∃ f,run ps d k found ws=some f/\f.length<=40 /\
  (∀ s0 s2 s6,∃ s6',zBd zB3 zAT k [s0,.v (.int d),s2,.v (.tup (ps.map plD)),.m (tk found),.l (ws.map D.int),s6]=some (.nx [s0,.v (.int d),s2,.v (.tup (ps.map plD)),.m (tk f),.l [],s6']))
 |0,_,_,_,_,hk,_=>by omega
 |k+1,found,ws,hi,hf,hk,hk2=>by
  unfold run
  cases e:ws.getLast? with
  |none=>
   have:=zD2 e
   subst this
   exact ⟨found,rfl,by omega,λs0 s2 s6=>⟨s6,zKx T_ap⟩⟩
  |some n=>
   obtain ⟨ew,hp⟩:=zEL e
   have hn:=hi n (by rw [ew];simp)
   have hi':Inn ps ws.dropLast:=λx hx=>hi x ((List.dropLast_sublist _).subset hx)
   have tA:=λ(s0 s2 s6:Sl)=>zKy h (d:=d) (s0:=s0) (s2:=s2) (s6:=s6) (found:=found) (by omega) (by omega) e hn
   have go:∀ s0 s1 s2 s3 s4 s6,zB3 [s0,s1,s2,s3,s4,.l (ws.map D.int),s6]=some true:=λ_ _ _ _ _ _=>by rw [T_ap];simp [hp]
   simp only
   by_cases hm:n∈found
   ·simp only [hm,zVp] at tA ⊢
    obtain ⟨f,r1,r2,r3⟩:=zSI h d k found ws.dropLast hi' hf (by rw [zWo];omega) (by omega)
    refine ⟨f,r1,r2,λs0 s2 s6=>?_⟩
    obtain ⟨s6',e'⟩:=r3 s0 s2 (.v (.int n))
    exact ⟨s6',by rw [zH1 (go _ _ _ _ _ _) (tA s0 s2 s6),e']⟩
   ·simp only [hm,zV8] at tA ⊢
    have u:=zPM (n:=ps.length) hn.1 hn.2 hm
    obtain ⟨o1,o2⟩:=zM3 h d n
    obtain ⟨f,r1,r2,r3⟩:=zSI h d k (found ++ [n]) (ws.dropLast++zI5 ps d n) (λx hx=>by
     rcases zU2.mp hx with hx|hx
     ·exact hi' x hx
     ·exact o1 x hx) (by simp;omega) (by rw [zU9,zWo];omega) (by omega)
    refine ⟨f,r1,r2,λs0 s2 s6=>?_⟩
    obtain ⟨s6',e'⟩:=r3 s0 s2 (.v (.int n))
    exact ⟨s6',by rw [zH1 (go _ _ _ _ _ _) (tA s0 s2 s6),e']⟩
theorem zPN (l:List Int):RD.zKl (l.map D.int)=some l:=by
 induction l with
 |nil=>rfl
 |cons x xs ih=>simp [RD.zKl,ih]
theorem zM4 {l:List Int} (h:l.length<64):zFU (.lst (l.map D.int))=some ((zBs l).map D.int):=by
 simp only [zFU,zQA,zUw,zU4,h,zVp,zPN]
theorem zSJ (f:List Int):zOW (tk f)=f.map D.int:=by simp [zOW,tk,zLJ]
theorem zJ3 {m:Int} {ps:List Pl} (h:ym m ps) (d:Int) (some':List Int) (hs:Inn ps some') (hl:some'.length<=100):∃ f,run ps d 300 [] some'=some f/\f.length<=40/\qT [dnD m ps,.int d,.tup (some'.map D.int)]=some (.tup ((zBs f).map D.int)):=by
 have hu:=zUK ps.length []
 have hn:=h.n1
 obtain ⟨f,r1,r2,r3⟩:=zSI h d 300 [] some' hs (by simp;omega) (by omega) (by omega)
 refine ⟨f,r1,r2,?_⟩
 obtain ⟨s6',e⟩:=r3 (.v (dnD m ps)) (.v (.tup (some'.map D.int))) .un
 have e0:ixO (dnD m ps) (.int 1)=some (.tup (ps.map plD)):=by simp only [dnD,ixO,at1]
 have tk0:tk [] = []:=rfl
 rw [tk0] at e
 exists 0,qT,zI2,e0,e,zRX,zSJ,zM4 (show f.length<64 by omega)
abbrev zE5:List Str:=["place","dancer"]
def zDC:ROo:=(zAC (vOr (b2 (b2 (gR 0) (zR 0) ixO) (λ_=>some (D.str "end")) eqO) (λρ=>((zB (gV 0) (zB (gV 1) zO)) ρ).bind yg)))
def zA8 (ds:List D):Option D:=zDY zE5 zDC ds
def zAU:ROd:=(b2 (b2 (gR 0) (zR 1) ixO) (gR 4) ixO)
def zAV:ROb:=(zLI (λρ=>((zB (gV 4) (zB (gV 1) zO)) ρ).bind zA8))
def zAW:ROd:=(gV 4)
abbrev zBQ:List Str:=["dance","dancer","some","places"]
def zBR:ROo:=(sq (qI 3 λρ=>((zK 1 (iT (gV 2)) (gN 4) (λ_=>some true) zAU) ρ).map D.lst) (zAC (λρ=>((zK 1 (iL (gV 3)) (gN 4) zAV zAW) ρ).map D.lst)))
def yT (ds:List D):Option D:=zDY zBQ zBR ds
def zB6:ROd:=(b2 (gR 2) (zR 0) ixO)
abbrev zDm:List Str:=["turn","dancer"]
def zCK:ROo:=(sq (sIf (bB (b2 (b2 (gR 0) (zR 0) ixO) (λ_=>some (D.str "end")) eqO)) (zAC (λρ=>((zB (λ_=>some (D.str "end")) zO) ρ).map D.tup)) (λρ=>some (Out.nx ρ))) (sq (sIf (bB (b2 (b2 (gR 0) (zR 1) ixO) (gR 1) eqO)) (zAC (λρ=>((zB (λ_=>some (D.str "tells")) (zB (b2 (gR 0) (zR 2) ixO) (zB (b1 (λρ=>((zK 1 (iT (b2 (gR 0) (zR 3) ixO)) (gN 2) (λ_=>some true) zB6) ρ).map D.lst) zIO) zO))) ρ).map D.tup)) (λρ=>some (Out.nx ρ))) (zAC (λρ=>((zB (λ_=>some (D.str "hears")) (zB (b2 (gR 0) (zR 1) ixO) zO)) ρ).map D.tup))))
def qc (ds:List D):Option D:=zDY zDm zCK ds
def qD:ROd:=(b2 (λρ=>((zB (gV 3) (zB (gV 1) zO)) ρ).bind qc) (gR 2) eqO)
abbrev zAr:List Str:=["turns","dancer","asked"]
def qg:Rho->Option zAp:=(sqX (oX (sIf (bB (b2 (b1 (gR 0) zEF) (zR 0) eqO)) (zAC (λρ=>((zB (λ_=>some (D.str "rests")) zO) ρ).map D.tup)) (λρ=>some (Out.nx ρ)))) (sqX (oX (qI 2 (λρ=>((zB (b2 (gR 0) (zR 0) ixO) (zB (gV 1) zO)) ρ).bind qc))) (sqX (zQF (zRH (zLI (b1 (λρ=>((zK 1 (iL (gV 0)) (gN 3) (λ_=>some true) qD) ρ).map D.lst) allO))) (zD0 0 (zB (b1 (gR 1) (fsO "dancer " " can't know which of unlike turns it is at")) zO)) (oX λρ=>some (Out.nx ρ))) (oX (zAC (gV 2))))))
def yJ (ds:List D):Option (Except Nat D):=zRa zAr qg ds
def yb:ROo:=(zJv 1 (gV 3) (gV 4))
def yv:ROo:=(zi (iT (λρ=>((zB (gV 2) zO) ρ).bind yf)) (gT 2 (gCs (gN 3) (gCs (gN 4) gNl))) yb)
abbrev zAX:List Str:=["turns","nexts","turn","word","number"]
def zAY:ROo:=(sq (zMe 1) (sq (zi (iL (gV 0)) (gN 2) yv) (zOe 1)))
def yr (ds:List D):Option Sl:=zSr zAX zAY ds
def zAZ:ROo:=(sIf (bB (b2 (b1 (λρ=>((zB (gV 0) (zB (gV 1) (zB (λρ=>((zB (gV 0) (zB (gV 1) (zB (λρ=>((zB (gV 3) zO) ρ).map D.tup) zO))) ρ).bind qT) zO))) ρ).bind yT) zEF) (zR 0) eqO)) (zOV 2 (gV 3) (λ_=>some (D.bl true))) (λρ=>some (Out.nx ρ)))
abbrev zE6:List Str:=["dance","dancer","found","number"]
def zB7:ROo:=(sq (zOU 2) (sq (zi (iR1 (zB (b1 (b2 (gR 0) (zR 1) ixO) zEF) zO)) (gN 3) zAZ) (zOe 2)))
def ql (ds:List D):Option Sl:=zSr zE6 zB7 ds
def zx:ROd:=(vBin 3 (gV 4))
abbrev yc:List Str:=["dancer","some","turns","vain"]
def zp:Rho->Option zAp:=(zQF (zRG (bB (b2 (b1 (gR 2) zEF) (zR 0) gtO)) (zLI (b1 (λρ=>((zK 1 (iT (gV 1)) (gN 4) (λ_=>some true) zx) ρ).map D.lst) anyO))) (zD0 0 (zB (b1 (gR 0) (fsO "dancer " " may wait in vain for its turn")) zO)) (oX λρ=>some (Out.nx ρ)))
def zq (ds:List D) (x:Ob):Option (Except Nat D):=zIo λa=>zMh yc zp a ds x
def zBS:ROo:=(sq (qI 12 (λρ=>((zB (gV 0) (zB (gV 1) (zB (b1 (zRs 9 (gV 11)) zIO) zO))) ρ).bind qT)) (sq (sIf (zT4 4 (gV 12)) (sq (zOg 4 (gV 12) (b1 (gR 3) zEF)) (zFV 3 (gV 12))) (λρ=>some (Out.nx ρ))) (zFV 10 (λρ=>((zB (gV 11) (zB (tGet 4 (gV 12)) zO)) ρ).map D.tup))))
def qF:ROb:=(bB (b2 (b1 (gR 5) zEF) (b1 (gR 3) zEF) ltO))
def yV:Rho->Option zAp:=(sqX (oX (qI 6 (b2 (gR 3) (b1 (gR 5) zEF) ixO))) (sqX (oX (qI 7 (λρ=>((zB (gV 0) (zB (gV 1) (zB (gV 6) zO))) ρ).bind yT))) (sqX (zMR (zRw 2 (aCo (gV 1) (aCo (gV 6) (aCo (gV 7) zO))) zq)) (sqX (zOb 8 (λρ=>((zB (gV 7) (zB (gV 1) zO)) ρ).bind yJ)) (oX (sq (zFY 9 (zB (gV 7) zO) yr) (sq (qr 10 zO) (sq (zi (iL (λρ=>((zMf 9) ρ).map D.lst)) (gN 11) zBS) (zFV 5 (vIf (bB (b2 (b2 (gR 8) (zR 0) ixO) (λρ=>((zB (λ_=>some (D.str "tells")) (zB (λ_=>some (D.str "hears")) zO)) ρ).map D.tup) inO)) (λρ=>((zB (b2 (gR 8) (zR 0) ixO) (zB (b2 (gR 8) (zR 1) ixO) (zB (b1 (gR 10) zIO) zO))) ρ).map D.tup) (gV 8)))))))))))
abbrev zE7:List Str:=["dance","dancer","vain","known","numbers","part","some","turns","asked","nexts","pairs","word","come_to"]
def zE8:Rho->Option zAp:=(sqX (oX (zFY 2 (zB (gV 0) (zB (gV 1) zO)) ql)) (sqX (oX (qr 3 (zB (λρ=>((zB (gV 0) (zB (gV 1) (zB (λρ=>((zB (zR 0) zO) ρ).map D.tup) zO))) ρ).bind qT) zO))) (sqX (oX (zKr 4 (b2 (gR 3) (zR 0) ixO) (zR 0))) (sqX (oX (qr 5 zO)) (sqX (zEq 20000000 qF yV) (oX (zAC (b1 (gR 5) zIO))))))))
def qA (ds:List D):Option (Except Nat D):=zRa zE7 zE8 ds
def isT (p:Pl) (d:Int):Bool:=match p with
 |.fin=>true
 |p=>tp p d
theorem zUL (p:Pl) (d:Int):zA8 [plD p,.int d]=some (.bl (isT p d)):=by
 have e:=zI4 p d
 cases p with
 |fin=>exists 0,zA8,zDC,plD,at0,isT,zVJ,ixO
 |tell a b ch=>
  have x0:ixO (plD (.tell a b ch)) (.int 0)=some (.str "tell"):=by simp only [plD,ixO,at0]
  exists 0,zA8,zDC,x0,isT,zI0,e
def zGq (ps:List Pl) (S:List Int):List Pl:=S.filterMap λn=>ps[n.toNat]?
def turns (ps:List Pl) (d:Int) (S:List Int):List Pl:=(zGq ps S).filter λp=>isT p d
theorem zH2 (ps:List Pl) (S:List Int):(zGq ps S).length<=S.length:=List.length_filterMap_le ..
theorem zJ4 {ps:List Pl} {s0 s1 s2 s3:Sl} {m:Int} (h0:s0 = .v (dnD m ps)):∀ (S:List Int),Inn ps S->zP (gN 4) (λ_=>some true) zAU (S.map D.int) [s0,s1,s2,s3,.un]=some ((zGq ps S).map plD)
 | [],_=>rfl
 |n::S,hi=>by
  subst h0
  have hn:=hi n zU0
  obtain ⟨p,hp,e1,e2⟩:=zMw hn.1 hn.2
  have ih:=zJ4 (s1:=s1) (s2:=s2) (s3:=s3) (m:=m) rfl S λx hx=>hi x (zUu _ hx)
  have e0:ixO (dnD m ps) (.int 1)=some (.tup (ps.map plD)):=by simp only [dnD,ixO,at1]
  have e5:ixO (.tup (ps.map plD)) (.int n)=some (plD p):=e2
  have ep:zGq ps (n::S)=p::zGq ps S:=by simp [zGq,e1]
  rw [ep,zUx,zUx]
  unfold zP
  rw [ih]
  exists zAU,e0,e5,eqO,eqD,eqL,gN,gT,gCs,gNl,zo,zc,neO,dep
theorem zKz {s0 s1 s2 s3:Sl} {d:Int} (h1:s1 = .v (.int d)) (qs:List Pl):zP (gN 4) zAV zAW (qs.map plD) [s0,s1,s2,s3,.un]=some ((qs.filter λp=>isT p d).map plD):=by
 subst h1
 refine yI (λp=>isT p d) plD qs λp _=>⟨_,rfl,?_,λ_=>?_⟩
 ·have:=zUL p d
  exists 0,zAV,this,ixO
 ·exists 0,zAW,ixO
theorem zM5 {m:Int} {ps:List Pl} (d:Int) {S:List Int} (hi:Inn ps S) (hl:S.length<=1000):yT [dnD m ps,.int d,.tup (S.map D.int)]=some (.lst ((turns ps d S).map plD)):=by
 have h1:=zJ4 (s0:=.v (dnD m ps)) (s1:=.v (.int d)) (s2:=.v (.tup (S.map D.int))) (s3:=.un) (m:=m) rfl S hi
 have h2:=zKz (s0:=.v (dnD m ps)) (s1:=.v (.int d)) (s2:=.v (.tup (S.map D.int))) (s3:=.v (.lst ((zGq ps S).map plD))) (d:=d) rfl (zGq ps S)
 have l1:S.length<=1000000:=by omega
 have l2:(zGq ps S).length<=1000000:=by have:=zH2 ps S;omega
 unfold yT zBR
 exists h1,h2,l1,l2,turns,ixO,eqO,eqD,eqL,gT,gCs,gNl,zo,zc,neO,dep
def zQP (p:Pl) (d:Int):D:=match p with
 |.fin=>.tup [.str "end"]
 |.tell a b ch=>if a=d then .tup [.str "tells",.int b,.tup (ch.map λq=>.str q.1)] else .tup [.str "hears",.int a]
theorem zPO {f:ROd} (ρ:Rho) (ch:List (Str×Int)) (i:Nat) (hf:∀ q:Str×Int,f ((ρ ++ [Sl.un]).set i (.v (chD q)))=some (.str q.1)):zP (gN i) (λ_=>some true) f (ch.map chD) (ρ ++ [Sl.un])=some (ch.map λq=>D.str q.1):=by
 have:=yI (g:=gN i) (p:=λ_=>some true) (f:=f) (emb:=chD) (ρ:=ρ ++ [Sl.un]) (λ_=>true) (λq=>D.str q.1) ch λq _=>⟨_,rfl,rfl,λ_=>hf q⟩
 rw [this,zWK.mpr (by simp)]
theorem zM6 (p:Pl) (d:Int) (hl:(chs p).length<=3):qc [plD p,.int d]=some (zQP p d):=by
 cases p with
 |fin=>exists 0,qc,zCK,plD,at0,zQP,zVJ,ixO
 |tell a b ch=>
  have x0:ixO (plD (.tell a b ch)) (.int 0)=some (.str "tell"):=by simp only [plD,ixO,at0]
  have x1:ixO (plD (.tell a b ch)) (.int 1)=some (.int a):=by simp only [plD,ixO,at1]
  have x2:ixO (plD (.tell a b ch)) (.int 2)=some (.int b):=by simp only [plD,ixO,at2]
  have x3:ixO (plD (.tell a b ch)) (.int 3)=some (.tup (ch.map chD)):=by simp only [plD,ixO,at3]
  have ea:eqO (.int a) (.int d)=some (.bl (decide (a=d))):=by
   unfold eqO;rw [zVE (by simp [dep])];unfold eqD;rw [zWf]
  have es:eqO (.str "tell") (.str "end")=some (.bl false):=by
   unfold eqO;rw [zVE (by simp [dep])];unfold eqD;rw [zI0]
  have l1:ch.length<=1000000:=by simp only [chs] at hl;omega
  have cf:=zPO (f:=zB6) [.v (plD (.tell a b ch)),.v (.int d)] ch 2 λq=>by
   exists 0,zB6,chD,at0,ixO
  unfold qc zCK
  simp only [zVy,zWA] at cf
  by_cases h:a=d
  ·rw [zVz h] at ea
   have ak:zQP (.tell a b ch) d = .tup [.str "tells",.int b,.tup (ch.map λq=>.str q.1)]:=by simp [zQP,h]
   rw [ak]
   exists x0,x1,x2,x3,ea,es,cf,l1,eqD,eqL,gT,gCs,gNl,zo,zc,neO,dep
  ·rw [zVh h] at ea
   have ak:zQP (.tell a b ch) d = .tup [.str "hears",.int a]:=by simp [zQP,h]
   rw [ak]
   exists x0,x1,x2,x3,ea,es,cf,l1,eqD,eqL,gT,gCs,gNl,zo,zc,neO,dep
inductive Ask where
 |fin|tells (b:Int) (ws:List Str)|hears (a:Int)
deriving DecidableEq
def ask (p:Pl) (d:Int):Ask:=match p with
 |.fin=>.fin
 |.tell a b ch=>if a=d then .tells b (ch.map (·.1)) else .hears a
def qw:Ask->D
 |.fin=>.tup [.str "end"]
 |.tells b ws=>.tup [.str "tells",.int b,.tup (ws.map D.str)]
 |.hears a=>.tup [.str "hears",.int a]
theorem zM7 (p:Pl) (d:Int):zQP p d=qw (ask p d):=by
 cases p with
 |fin=>rfl
 |tell a b ch=>
  unfold zQP ask
  by_cases h:a=d
  ·simp [h,qw]
  ·simp [h,qw]
theorem zGr:∀ (l r:List Str),eqL (l.map D.str) (r.map D.str)=decide (l=r)
 | [],[]=>by simp [eqL]
 | [],_::_=>by simp [eqL]
 |_::_,[]=>by simp [eqL]
 |a::l,b::r=>by
  rw [zUx,zUx,eqL,zGr l r,eqD]
  by_cases h:a=b
  ·subst h;simp
  ·simp [h]
theorem s_te:((Str.ofString "tells" : Str) == Str.ofString "end")=false:=by decide +kernel
theorem s_et:((Str.ofString "end" : Str) == Str.ofString "tells")=false:=by decide +kernel
theorem s_he:((Str.ofString "hears" : Str) == Str.ofString "end")=false:=by decide +kernel
theorem s_eh:((Str.ofString "end" : Str) == Str.ofString "hears")=false:=by decide +kernel
theorem s_th:((Str.ofString "tells" : Str) == Str.ofString "hears")=false:=by decide +kernel
theorem s_ht:((Str.ofString "hears" : Str) == Str.ofString "tells")=false:=by decide +kernel
theorem zDn (a b:Int):(a == b)=decide (a=b):=by rw [zWf]
theorem zUM (x y:Ask):eqD (qw x) (qw y)=decide (x=y):=by
 cases x<;>cases y<;>simp only [qw,eqD,eqL,zVJ,s_te,s_et,s_he,s_eh,s_th,s_ht,zGr,zDn,Bool.and_true,Bool.true_and,Bool.false_and,Bool.and_false,zW6,zV2,reduceCtorEq]
 ·rename_i b ws b' ws'
  by_cases h:b=b'<;>by_cases h':ws=ws'<;>simp [h,h']
 ·rename_i a a'
  by_cases h:a=a'<;>simp [h]
theorem zSK (x:Ask):dep (qw x)<=20:=by
 have ds:∀ ws:List Str,depL (ws.map D.str)<=1:=λws=>by
  induction ws with
  |nil=>simp [depL]
  |cons w ws ih=>simp only [zUx,depL,dep] at *;omega
 cases x with
 |fin=>decide
 |tells b ws=>have:=ds ws;simp only [qw,dep,depL];omega
 |hears a=>simp only [qw,dep,depL];omega
theorem zSL (x y:Ask):eqO (qw x) (qw y)=some (.bl (decide (x=y))):=by
 unfold eqO
 rw [zVE (by have:=zSK x;omega),zUM]
theorem zH3 (l:List Bool):RD.zEo (l.map D.bl)=some l:=by
 induction l with
 |nil=>rfl
 |cons x xs ih=>simp [RD.zEo,ih]
theorem four {d:Int} (h0:0<=d) (h1:d<4):d=0\/d=1\/d=2\/d=3:=by omega
theorem zUN {a b:Str} {i:Int} (h:0<=i/\i<1000000/\(Str.empty++a++((toString i:String):Str)++b).length<=1000000):∃ x,fsO a b (.int i)=some x:=by
 refine ⟨.str (Str.empty++a++((toString i:String):Str)++b),?_⟩
 simp only [fsO]
 rw [zVE h]
theorem zUO {d:Int} (h0:0<=d) (h1:d<4):∃ x,fsO "dancer " " can't know which of unlike turns it is at" (.int d)=some x:=by
 rcases four h0 h1 with rfl|rfl|rfl|rfl<;>exact zUN (by decide +kernel)
theorem zUP {d:Int} (h0:0<=d) (h1:d<4):∃ x,fsO "dancer " " may wait in vain for its turn" (.int d)=some x:=by
 rcases four h0 h1 with rfl|rfl|rfl|rfl<;>exact zUN (by decide +kernel)
def zJ5 (ts:List Pl) (d:Int):Except Nat D:=match ts with
 | []=>.ok (.tup [.str "rests"])
 |t::ts=>if (t::ts).all (λu=>decide (ask u d=ask t d)) then .ok (qw (ask t d)) else .error 0
theorem zI6 {d:Int} (h0:0<=d) (h1:d<4) (ts:List Pl) (hl:ts.length<=1000) (hc:∀ t∈ts,(chs t).length<=3) :
  yJ [.lst (ts.map plD),.int d]=some (zJ5 ts d):=by
 unfold zJ5
 obtain ⟨x,hx⟩:=zUO h0 h1
 cases ts with
 |nil=>
  exists 0,yJ,qg,zRa,sqX,oX,ixO
 |cons t ts=>
  have i0:ixO (.lst (plD t::ts.map plD)) (.int 0)=some (plD t):=by simp only [ixO,at0]
  have m0:=zM6 t d (hc t zU0)
  rw [zM7] at m0
  have cf:zP (gN 3) (λ_=>some true) qD ((t::ts).map plD) [.v (.lst (plD t::ts.map plD)),.v (.int d),.v (qw (ask t d)),.un]=some (((t::ts).map λu=>decide (ask u d=ask t d)).map D.bl):=by
   have:=yI (g:=gN 3) (p:=λ_=>some true) (f:=qD) (emb:=plD) (ρ:=[.v (.lst (plD t::ts.map plD)),.v (.int d),.v (qw (ask t d)),.un]) (λ_=>true) (λu=>D.bl (decide (ask u d=ask t d))) (t::ts) λu hu=>by
    refine ⟨_,rfl,rfl,λ_=>?_⟩
    have m1:=zM6 u d (hc u hu)
    rw [zM7] at m1
    exists qD,m1,zSL,ixO,eqD,eqL,zP,gN,gT,gCs,gNl,zo,zc,neO,dep
   rw [this,zWK.mpr (by simp),zVt]
   rfl
  rw [zUx] at cf
  have e0:eqO (.int ((ts.length:Int)+1)) (.int 0)=some (.bl false):=by
   unfold eqO;rw [zVE (by simp [dep])];unfold eqD;rw [zDn,zVh (by omega)]
  have l1:ts.length+1<=1000000:=by simp only [zUv] at hl;omega
  have bb:=zH3 ((t::ts).map λu=>decide (ask u d=ask t d))
  have ba:((t::ts).map λu=>decide (ask u d=ask t d)).all id=(t::ts).all λu=>decide (ask u d=ask t d):=by
   rw [List.all_map];rfl
  generalize ((t::ts).map λu=>decide (ask u d=ask t d))=bs at cf bb ba
  unfold yJ qg
  cases ha:(t::ts).all λu=>decide (ask u d=ask t d) with
  |true=>
   rw [ha] at ba
   exists zRa,sqX,oX,zQF,zD0,i0,m0,cf,e0,l1,bb,ba,zU4,Int.natCast_add,zVq,eqD,eqL,gT,gCs,gNl,zo,zc,neO,dep
   rw [ha];rfl
  |false=>
   rw [ha] at ba
   exists zRa,sqX,oX,zQF,zD0,i0,m0,cf,e0,l1,bb,ba,zU4,Int.natCast_add,zVq,hx,eqD,eqL,gT,gCs,gNl,zo,zc,neO,dep
   rw [ha];rfl
def wds (qs:List (Str×Int)):List Str:=qs.foldl (λacc q=>if q.1∈acc then acc else acc ++ [q.1]) []
def sel (w:Str) (qs:List (Str×Int)):List Int:=(qs.filter λq=>decide (q.1=w)).map (·.2)
def yj (qs:List (Str×Int)):List (Key×List D):=(wds qs).map λw=>(Sum.inr w,(sel w qs).map D.int)
theorem zDD (qs:List (Str×Int)) (q:Str×Int):wds (qs ++ [q])=if q.1∈wds qs then wds qs else wds qs ++ [q.1]:=by
 unfold wds;rw [List.foldl_append,zWg,List.foldl_nil]
theorem zGs (w:Str) (qs:List (Str×Int)) (q:Str×Int):sel w (qs ++ [q])=sel w qs++(if q.1=w then [q.2] else []):=by
 unfold sel
 rw [List.filter_append,zVK]
 by_cases h:q.1=w<;>simp [h]
theorem zGt {α:Type} {P:List α->Prop} (h0:P []) (h1:∀ l a,P l->P (l ++ [a])) (l:List α):P l:=by
 have:∀ n (l:List α),l.length=n->P l:=by
  intro n
  induction n with
  |zero=>intro l e;rw [zWw.mp e];exact h0
  |succ n ih=>
   intro l e
   obtain ⟨i,x,rfl⟩:=zMy (l:=l) (by omega)
   exact h1 i x (ih i (by simpa using e))
 exact this _ l rfl
theorem zH4 (qs:List (Str×Int)):(wds qs).Nodup:=by
 refine zGt (P:=λqs=>(wds qs).Nodup) (by simp [wds]) (λl q ih=>?_) qs
 rw [zDD]
 split
 ·exact ih
 ·rename_i h
  exact zVn.mpr ⟨ih,by simp,λa ha b hb=>by simp at hb;subst hb;exact λe=>h (e ▸ ha)⟩
theorem zI7 (qs:List (Str×Int)):(wds qs).length<=qs.length:=by
 refine zGt (P:=λqs=>(wds qs).length<=qs.length) (by simp [wds]) (λl q ih=>?_) qs
 rw [zDD]
 split<;>simp<;>omega
theorem zGu {qs:List (Str×Int)} {w:Str}:w∈wds qs↔∃ q∈qs,q.1=w:=by
 refine zGt (P:=λqs=>w∈wds qs↔∃ q∈qs,q.1=w) (by simp [wds]) (λl q ih=>?_) qs
 rw [zDD]
 split
 ·rename_i h
  rw [ih]
  constructor
  ·rintro ⟨x,hx,e⟩;exact ⟨x,by simp [hx],e⟩
  ·rintro ⟨x,hx,e⟩
   rcases zU2.mp hx with hx|hx
   ·exact ⟨x,hx,e⟩
   ·simp at hx;subst hx;exact ih.mp (e ▸ h)
 ·rw [zU2,ih]
  constructor
  ·rintro (⟨x,hx,e⟩|hx)
   ·exact ⟨x,by simp [hx],e⟩
   ·simp at hx;exact ⟨q,by simp,hx.symm⟩
  ·rintro ⟨x,hx,e⟩
   rcases zU2.mp hx with hx|hx
   ·exact .inl ⟨x,hx,e⟩
   ·simp at hx;subst hx;exact .inr (by simp [e])
theorem zSM (w:Str) (qs:List (Str×Int)):(sel w qs).length<=qs.length:=by
 unfold sel;rw [zU4];exact zXB ..
theorem zEM (g:Str->List D) (w:Str):∀ L:List Str,zAv (L.map λv=>((Sum.inr v:Key),g v)) (.inr w)=if w∈L then some (g w) else none
 | []=>rfl
 |v::L=>by
  have ih:=zEM g w L
  unfold zAv at ih ⊢
  rw [zUx,zVU]
  by_cases e:v=w
  ·subst e;simp
  ·have e1:¬ (Sum.inr v:Key)=Sum.inr w:=λz=>e (by simpa using z)
   have e2:¬ w=v:=λz=>e z.symm
   simp only [e1,zV2,zU1,e2,false_or]
   exact ih
theorem zJ6 (g:Str->List D) (w:Str) (x:List D):∀ L:List Str,L.Nodup->w∈L->zCk (.inr w) x (L.map λv=>((Sum.inr v:Key),g v))=L.map λv=>((Sum.inr v:Key),if v=w then x else g v)
 | [],_,h=>by simp at h
 |v::L,hn,h=>by
  obtain ⟨h1,h2⟩:=zVa.mp hn
  rw [zUx,zUx]
  by_cases e:v=w
  ·subst e
   simp only [zCk,zVp,zV9,true_and]
   refine zVx λu hu=>?_
   have:u≠v:=λz=>h1 (z ▸ hu)
   simp [this]
  ·have e1:¬ (Sum.inr v:Key)=Sum.inr w:=λz=>e (by simpa using z)
   simp only [zCk,e1,e,zV8,zV9,true_and]
   rcases zU1.mp h with h|h
   ·exact absurd h.symm e
   ·exact zJ6 g w x L h2 h
theorem zSN {qs:List (Str×Int)} {q:Str×Int} (h:q.1∈wds qs):zAv (yj qs) (.inr q.1)=some ((sel q.1 qs).map D.int)/\zCk (.inr q.1) ((sel q.1 qs).map D.int ++ [.int q.2]) (yj qs)=yj (qs ++ [q]):=by
 refine ⟨by unfold yj;rw [zEM (λw=>(sel w qs).map D.int),zVE h],?_⟩
 unfold yj
 rw [zJ6 (λw=>(sel w qs).map D.int) _ _ _ (zH4 qs) h,zDD,zVE h]
 refine zVx λv _=>?_
 rw [zGs]
 by_cases e:v=q.1
 ·simp [e]
 ·simp [e,Ne.symm e]
theorem zSO {qs:List (Str×Int)} {q:Str×Int} (h:q.1∉wds qs):zAv (yj qs) (.inr q.1)=none/\yj qs ++ [(.inr q.1,[.int q.2])]=yj (qs ++ [q]):=by
 refine ⟨by unfold yj;rw [zEM (λw=>(sel w qs).map D.int),zVe h],?_⟩
 unfold yj
 rw [zDD,zVe h,zVK]
 have s0:sel q.1 qs = []:=by
  unfold sel
  rw [List.map_eq_nil_iff,List.filter_eq_nil_iff]
  intro x hx z
  exact h (zGu.mpr ⟨x,hx,by simpa using z⟩)
 congr 1
 ·refine zVx λv hv=>?_
  have:q.1≠v:=λz=>h (z ▸ hv)
  rw [zGs,zVe this,zVZ]
 ·simp [zGs,s0]
theorem zSP {s0 s2:Sl} {qs:List (Str×Int)} {q:Str×Int} (hl:qs.length<=1000):yb [s0,.o none (.p (.ml (yj qs))),s2,.v (.str q.1),.v (.int q.2)]=some (.nx [s0,.o none (.p (.ml (yj (qs ++ [q])))),s2,.v (.str q.1),.v (.int q.2)]):=by
 have l1:(sel q.1 qs).length<1000000:=by have:=zSM q.1 qs;omega
 have l2:(yj qs).length<1000000:=by have:=zI7 qs;simp [yj];omega
 by_cases h:q.1∈wds qs
 ·obtain ⟨h1,h2⟩:=zSN h
  exists 0,yb,zJv,gML,zFs,h1,h2,l1,ixO
 ·obtain ⟨h1,h2⟩:=zSO h
  exists 0,yb,zJv,gML,zFs,h1,h2,l2,ixO
theorem zJ7 {s0 s2:Sl}:∀ (rs qs:List (Str×Int)) (s3 s4:Sl),(qs++rs).length<=1000->∃ s3' s4',zc (gT 2 (gCs (gN 3) (gCs (gN 4) gNl))) yb (rs.map chD) [s0,.o none (.p (.ml (yj qs))),s2,s3,s4]=some (.nx [s0,.o none (.p (.ml (yj (qs++rs)))),s2,s3',s4'])
 | [],qs,s3,s4,_=>⟨s3,s4,by simp [zc]⟩
 |q::rs,qs,s3,s4,hl=>by
  obtain ⟨s3',s4',ih⟩:=zJ7 rs (qs ++ [q]) (.v (.str q.1)) (.v (.int q.2)) (by simpa using hl)
  refine ⟨s3',s4',?_⟩
  have hs:=zSP (s0:=s0) (s2:=s2) (qs:=qs) (q:=q) (by simp at hl;omega)
  rw [zUx,zB1 (ρ1:=[s0,.o none (.p (.ml (yj qs))),s2,.v (.str q.1),.v (.int q.2)]) (by exists 0,chD,ixO) hs,ih]
  simp
theorem zJ8 {s0:Sl}:∀ (ts:List Pl) (qs:List (Str×Int)) (s2 s3 s4:Sl),(qs++ts.flatMap chs).length<=1000->∃ s2' s3' s4',zc (gN 2) yv (ts.map plD) [s0,.o none (.p (.ml (yj qs))),s2,s3,s4]=some (.nx [s0,.o none (.p (.ml (yj (qs++ts.flatMap chs)))),s2',s3',s4'])
 | [],qs,s2,s3,s4,_=>⟨s2,s3,s4,by simp [zc]⟩
 |t::ts,qs,s2,s3,s4,hl=>by
  rw [zVX,<- zVr] at hl ⊢
  obtain ⟨s3',s4',e1⟩:=zJ7 (s0:=s0) (s2:=.v (plD t)) (chs t) qs s3 s4 (by rw [zU9] at hl;omega)
  obtain ⟨a,b,c,ih⟩:=zJ8 (s0:=s0) ts (qs++chs t) (.v (plD t)) s3' s4' hl
  refine ⟨a,b,c,?_⟩
  have hs:yv [s0,.o none (.p (.ml (yj qs))),.v (plD t),s3,s4]=some (.nx [s0,.o none (.p (.ml (yj (qs++chs t)))),.v (plD t),s3',s4']):=by
   unfold yv
   exists zH0,e1,ixO,eqO,eqD,eqL,zP,zo,neO,dep
  rw [zUx,zB1 (ρ1:=[s0,.o none (.p (.ml (yj qs))),.v (plD t),s3,s4]) (by exists 0,ixO) hs,ih]
theorem zSQ {ts:List Pl} (hl:(ts.flatMap chs).length<=1000):yr [.lst (ts.map plD)]=some (.o none (.p (.ml (yj (ts.flatMap chs))))):=by
 obtain ⟨a,b,c,e⟩:=zJ8 (s0:=.v (.lst (ts.map plD))) ts [] .un .un .un (by simpa using hl)
 have k0:yj [] = []:=rfl
 rw [k0,zWA] at e
 exists yr,zAY,zSr,zT3,zMe,zOe,Sl.isOwn,e,ixO,eqO,eqD,eqL,zP,gT,gCs,gNl,zo,neO,dep
def apt (ps:List Pl) (d:Int) (S:List Int):List Int:=zBs ((run ps d 300 [] S).getD [])
theorem zGv {x y:Int}:∀ {l:List Int},y∈zIf x l↔y=x\/y∈l
 | []=>by simp [zIf]
 |z::l=>by
  simp only [zIf]
  split
  ·simp
  ·simp only [zU1,zGv (l:=l)]
   constructor
   ·rintro (h|h|h)<;>simp [h]
   ·rintro (h|h|h)<;>simp [h]
theorem zA9 {y:Int}:∀ {l:List Int},y∈zBs l↔y∈l
 | []=>by simp [zBs]
 |x::l=>by simp only [zBs,zGv,zA9 (l:=l),zU1]
theorem zJ9 {x:Int}:∀ {l:List Int},(zIf x l).length=l.length+1
 | []=>rfl
 |z::l=>by simp only [zIf];split<;>simp [zJ9 (l:=l)]
theorem zH5:∀ {l:List Int},(zBs l).length=l.length
 | []=>rfl
 |x::l=>by simp only [zBs,zJ9,zH5 (l:=l),zUv]
theorem zM8 {x:Int}:∀ {l:List Int},l.Pairwise (· < ·)->x∉l->(zIf x l).Pairwise (· < ·)
 | [],_,_=>by simp [zIf]
 |z::l,h,n=>by
  obtain ⟨h1,h2⟩:=zVI.mp h
  have nz:x≠z:=λe=>n (by simp [e])
  have nl:x∉l:=λe=>n (by simp [e])
  simp only [zIf]
  split
  ·rename_i q
   have hz:x<z:=by omega
   exact zVI.mpr ⟨λy hy=>by
    rcases zU1.mp hy with rfl|hy
    ·exact hz
    ·have:=h1 y hy;omega,h⟩
  ·rename_i q
   refine zVI.mpr ⟨λy hy=>?_,zM8 h2 nl⟩
   rcases zGv.mp hy with rfl|hy
   ·omega
   ·exact h1 y hy
theorem zKA:∀ {l:List Int},l.Nodup->(zBs l).Pairwise (· < ·)
 | [],_=>by simp [zBs]
 |x::l,h=>by
  obtain ⟨h1,h2⟩:=zVa.mp h
  exact zM8 (zKA h2) λhy=>h1 (zA9.mp hy)
theorem zM9 {m:Int} {ps:List Pl} (h:ym m ps) (d:Int):∀ (k:Nat) (found ws f:List Int),Inn ps found->found.Nodup->Inn ps ws->run ps d k found ws=some f->Inn ps f/\f.Nodup
 |0,_,_,_,_,_,_,e=>by simp [run] at e
 |k+1,found,ws,f,hf,hn,hi,e=>by
  unfold run at e
  cases q:ws.getLast? with
  |none=>rw [q] at e;cases e;exact ⟨hf,hn⟩
  |some n=>
   rw [q] at e
   simp only at e
   obtain ⟨ew,hp⟩:=zEL q
   have hn':=hi n (by rw [ew];simp)
   have hi':Inn ps ws.dropLast:=λx hx=>hi x ((List.dropLast_sublist _).subset hx)
   split at e
   ·exact zM9 h d k found ws.dropLast f hf hn hi' e
   ·rename_i hm
    refine zM9 h d k (found ++ [n]) _ f (λx hx=>?_) ?_ (λx hx=>?_) e
    ·rcases zU2.mp hx with hx|hx
     ·exact hf x hx
     ·simp at hx;subst hx;exact hn'
    ·exact zVn.mpr ⟨hn,by simp,λa ha b hb=>by simp at hb;subst hb;exact λz=>hm (z ▸ ha)⟩
    ·rcases zU2.mp hx with hx|hx
     ·exact hi' x hx
     ·exact (zM3 h d n).1 x hx
structure zGw (ps:List Pl) (K:List Int):Prop where
 inn:Inn ps K
 up:K.Pairwise (· < ·)
 len:K.length<=40
theorem zH6 {m:Int} {ps:List Pl} (h:ym m ps) (d:Int) {S:List Int} (hs:Inn ps S) (hl:S.length<=100):zGw ps (apt ps d S)/\qT [dnD m ps,.int d,.tup (S.map D.int)]=some (.tup ((apt ps d S).map D.int)):=by
 obtain ⟨f,e1,e2,e3⟩:=zJ3 h d S hs hl
 have ea:apt ps d S=zBs f:=by simp [apt,e1]
 obtain ⟨i1,i2⟩:=zM9 h d 300 [] S f (λ_ hx=>by simp at hx) (by simp) hs e1
 rw [ea]
 exact ⟨⟨λn hn=>i1 n (zA9.mp hn),zKA i2,by rw [zH5];exact e2⟩,e3⟩
theorem zSR {n:Int} {found:List Int}:zKo (tk found) (.inl n) (.bl true)=tk (if n∈found then found else found ++ [n]):=by
 by_cases h:n∈found
 ·rw [zVE h]
  unfold zKo
  rw [zVE]
  ·unfold tk
   rw [zVt]
   refine zVx λx _=>?_
   simp only [Function.comp_def]
   split
   ·rename_i e;simp at e;simp [e]
   ·rfl
  ·simp [tk];exact h
 ·rw [zVe h];exact zQO h
theorem zE9 {g:D->Rho->Option Rho} {F:ROo} (I:Nat->Rho->Prop) (n:Nat):∀ {ds:List D} {k:Nat} {ρ:Rho},k+ds.length<=n->(∀ d∈ds,∀ k ρ,k<n->I k ρ->∃ ρ',(g d ρ).bind F=some (.nx ρ')/\I (k+1) ρ')->I k ρ->∃ ρ',zc g F ds ρ=some (.nx ρ')/\I (k+ds.length) ρ'
 | [],k,ρ,_,_,h=>⟨ρ,rfl,h⟩
 |d::ds,k,ρ,hk,st,h=>by
  rw [zUv] at hk
  obtain ⟨ρ1,e1,h1⟩:=st d zU0 k ρ (by omega) h
  obtain ⟨ρ2,e2,h2⟩:=zE9 I n (ds:=ds) (k:=k+1) (ρ:=ρ1) (by omega) (λd' hd=>st d' (zUu _ hd)) h1
  refine ⟨ρ2,?_,?_⟩
  ·obtain ⟨ρ3,e3,e4⟩:=zUs.mp e1
   simp only [zc,e3,zUw,e4,e2]
  ·rw [zUv,show k+(ds.length+1)=k+1+ds.length by omega];exact h2
theorem zNA (ps:List Pl) (d:Int) (S:List Int):(turns ps d S).length<=S.length:=zVb (zXB ..) (zH2 ps S)
theorem zNB {m:Int} {ps:List Pl} (h:ym m ps) {d n:Int} (hn:0<=n/\n<(ps.length:Int)) {found:List Int} (hl:found.length<=1000) :
  ∃ found',found'.length<=found.length+1/\zAZ [.v (dnD m ps),.v (.int d),.m (tk found),.v (.int n)]=some (.nx [.v (dnD m ps),.v (.int d),.m (tk found'),.v (.int n)]):=by
 have hi:Inn ps [n]:=λx hx=>by simp at hx;subst hx;exact hn
 obtain ⟨a1,a2⟩:=zH6 h d hi (by simp)
 have a3:=zM5 (m:=m) d a1.inn (by have:=a1.len;omega)
 simp only [zUx,zV7] at a2
 have l1:(tk found).length<1000000:=by simp [tk];omega
 have e0:eqO (.int (turns ps d (apt ps d [n])).length) (.int 0)=some (.bl (decide (((turns ps d (apt ps d [n])).length:Int)=0))):=by
  unfold eqO;rw [zVE (by simp [dep])];unfold eqD;rw [zDn]
 have pt:=zSR (n:=n) (found:=found)
 by_cases c:((turns ps d (apt ps d [n])).length:Int)=0
 ·rw [zVz c] at e0
  refine ⟨if n∈found then found else found ++ [n],by split<;>simp,?_⟩
  exists zAZ,a2,a3,e0,zFs,l1,pt,ixO,eqD,eqL,zP,gN,gT,gCs,gNl,zo,zc,neO,dep
 ·rw [zVh c] at e0
  refine ⟨found,by omega,?_⟩
  exists zAZ,a2,a3,e0,zFs,l1,pt,ixO,eqD,eqL,zP,gN,gT,gCs,gNl,zo,zc,neO,dep
theorem zI8 (lo:Int) (n:Nat):(rng lo n).length=n:=by simp [rng]
theorem zUQ {m:Int} {ps:List Pl} (h:ym m ps) (d:Int):∃ found,ql [dnD m ps,.int d]=some (.m (tk found)):=by
 have hp:=h.n1
 obtain ⟨ρ',e,found,s3,hl,rfl⟩:=zE9 (g:=gN 3) (F:=zAZ) (λk ρ=>∃ found s3,found.length<=k/\ρ = [.v (dnD m ps),.v (.int d),.m (tk found),s3]) 40 (ds:=rng 0 ps.length) (k:=0) (ρ:=[.v (dnD m ps),.v (.int d),.m (tk []),.un]) (by rw [zI8];omega) (by
  intro x hx k ρ hk hI
  obtain ⟨i,hi,rfl⟩:=zVT.mp hx
  obtain ⟨found,s3,hl,rfl⟩:=hI
  have hi':=zWD.mp hi
  obtain ⟨f',l',e'⟩:=zNB h (d:=d) (n:=0+(i:Int)) (by omega) (found:=found) (by omega)
  exact ⟨_,by simpa [gN] using e',f',_,by omega,rfl⟩) ⟨[],.un,by simp,rfl⟩
 refine ⟨found,?_⟩
 have e0:ixO (dnD m ps) (.int 1)=some (.tup (ps.map plD)):=by simp only [dnD,ixO,at1]
 have tk0:tk [] = []:=rfl
 rw [tk0] at e
 have ir:RD.inR (ps.length:Int)=true:=zHz (by omega)
 unfold ql zSr
 have e1:zB7 [.v (dnD m ps),.v (.int d),.un,.un]=some (.ro (.m (tk found))):=by
  unfold zB7
  refine (zm (ρ':=[.v (dnD m ps),.v (.int d),.m [],.un]) rfl).trans ((zm ((zAS (zF7 (n:=ps.length) ?_ (by omega))).trans e)).trans rfl)
  simp only [zB,b1,b2,zLH,e0,zEF,zVS,zUw,zU4,zVG]
 show (zB7 [.v (dnD m ps),.v (.int d),.un,.un]).bind zT3=_
 rw [e1]
 rfl
theorem zPP {d:Int} (h0:0<=d) (h1:d<4) (K:List Int) (ts:List Pl) (found:List Int) (hl:K.length<=1000):∃ r,(r = .ok .non\/r = .error 0)/\zq [.int d,.tup (K.map D.int),.lst (ts.map plD)] (.p (.m (tk found)))=some r:=by
 obtain ⟨x,hx⟩:=zUP h0 h1
 have cf:∀ a:Addr,zP (gN 4) (λ_=>some true) zx (K.map D.int) [.v (.int d),.v (.tup (K.map D.int)),.v (.lst (ts.map plD)),.b a (.p (.m (tk found))),.un]=some ((K.map λn=>decide (n∈found)).map D.bl):=λa=>by
  have:=yI (g:=gN 4) (p:=λ_=>some true) (f:=zx) (emb:=D.int) (ρ:=[.v (.int d),.v (.tup (K.map D.int)),.v (.lst (ts.map plD)),.b a (.p (.m (tk found))),.un]) (λ_=>true) (λn=>D.bl (decide (n∈found))) K λn _=>by
   refine ⟨_,rfl,rfl,λ_=>?_⟩
   have gt:=zM2 n found
   exists 0,zx,vBin,zDd,zFs,gt,ixO
  rw [this,zWK.mpr (by simp),zVt]
  rfl
 have bb:=zH3 (K.map λn=>decide (n∈found))
 generalize (K.map λn=>decide (n∈found))=bs at cf bb
 have l1:K.length<=1000000:=by omega
 by_cases c:ts.length=0
 ·refine ⟨.ok .non,.inl rfl,qQ λa=>?_⟩
  exists zMh,zp,zQF,oX,zD0,c,ixO,eqO,eqD,eqL,gT,gCs,gNl,zo,zc,neO,dep
 ·have c':(0:Int)<(ts.length:Int):=by omega
  cases hb:bs.any id with
  |true=>
   refine ⟨.error 0,.inr rfl,qQ λa=>?_⟩
   exists zMh,zp,zQF,oX,zD0,c',cf,l1,bb,hb,hx,ixO,eqO,eqD,eqL,gT,gCs,gNl,zo,zc,neO,dep
  |false=>
   refine ⟨.ok .non,.inl rfl,qQ λa=>?_⟩
   exists zMh,zp,zQF,oX,zD0,c',cf,l1,bb,hb,hx,ixO,eqO,eqD,eqL,gT,gCs,gNl,zo,zc,neO,dep
def zLK {α:Type}:List α->List (List α)
 | []=>[[]]
 |x::l=>zLK l++(zLK l).map (x :: ·)
theorem zKB {α:Type}:∀ l:List α,(zLK l).length=2 ^ l.length
 | []=>rfl
 |x::l=>by rw [zLK,zU9,zU4,zKB l,zUv,Nat.pow_succ];omega
theorem zKC {α:Type} {s l:List α} (h:s.Sublist l):s∈zLK l:=by
 induction h with
 |slnil=>simp [zLK]
 |cons a _ ih=>exact zU2.mpr (.inl ih)
 |cons_cons a _ ih=>exact zU2.mpr (.inr (zVT.mpr ⟨_,ih,rfl⟩))
theorem zGx {α:Type} [DecidableEq α]:∀ {l L:List α},l.Nodup->(∀ x∈l,x∈L)->l.length<=L.length
 | [],_,_,_=>zWS _
 |x::l,L,h,k=>by
  obtain ⟨h1,h2⟩:=zVa.mp h
  have hx:=k x zU0
  have ih:=zGx (l:=l) (L:=L.erase x) h2 λy hy=>(List.mem_erase_of_ne (λ(e:y=x)=>h1 (e ▸ hy))).mpr (k y (zUu _ hy))
  rw [List.length_erase_of_mem hx] at ih
  have:0<L.length:=List.length_pos_of_mem hx
  rw [zUv];omega
def tg1 (e h:Int):Pl->List Int
 |.fin=>[]
 |.tell a b ch=>if a=e/\b=h then ch.map (·.2) else []
def tgt (ps:List Pl) (e h:Int):List Int:=ps.flatMap (tg1 e h)
theorem zFA (e h:Int):∀ ps:List Pl,(tgt ps e h).length=qV e h (ps.map plD)
 | []=>rfl
 |p::ps=>by
  have ih:=zFA e h ps
  unfold tgt at ih ⊢
  rw [zVX,zU9,ih,zUx,qV]
  congr 1
  cases p with
  |fin=>rfl
  |tell a b ch=>
   simp only [tg1,plD,zMq,pr]
   split<;>simp
def zSs (ps:List Pl) (d:Int):List (List Int):=apt ps d [0] :: [0,1,2,3].flatMap λ(e:Int)=>(zLK (tgt ps e d)).map (apt ps d)++(zLK (tgt ps d e)).map (apt ps d)
def Few (ps:List Pl):Prop:=∀ e h,qV e h (ps.map plD)<=18
theorem zKD {ps:List Pl} (hf:Few ps) (d:Int):(zSs ps d).length<=2097153:=by
 have p:∀ e h,(zLK (tgt ps e h)).length<=262144:=λe h=>by
  rw [zKB,zFA]
  exact zVb (Nat.pow_le_pow_right (by decide) (hf e h)) (by decide)
 have a0:=p 0 d;have a1:=p 1 d;have a2:=p 2 d;have a3:=p 3 d
 have b0:=p d 0;have b1:=p d 1;have b2:=p d 2;have b3:=p d 3
 simp only [zSs,zVX,List.flatMap_nil,zUv,zU9,zU4,zVC]
 omega
theorem zPQ {α β:Type} {g:α->List β} {s l:List α} (h:s.Sublist l):(s.flatMap g).Sublist (l.flatMap g):=by
 induction h with
 |slnil=>simp
 |cons a _ ih=>rw [zVX];exact ih.trans (List.sublist_append_right ..)
 |cons_cons a _ ih=>rw [zVX,zVX];exact (List.Sublist.refl _).append ih
theorem zKE {α β:Type} {f g:α->Option β}:∀ {l:List α},(∀ x∈l,f x=g x)->l.filterMap f=l.filterMap g
 | [],_=>rfl
 |x::l,h=>by rw [zWB,zWB,h x zU0,zKE λy hy=>h y (zUu _ hy)]
theorem zH7:∀ (ps:List Pl) (off:Int) (K:List Int),K.Pairwise (· < ·)->(∀ n∈K,off<=n/\n<off+(ps.length:Int))->(K.filterMap λn=>ps[(n-off).toNat]?).Sublist ps
 |[],off,K,_,h=>by
  cases K with
  |nil=>simp
  |cons n K=>have:=h n zU0;simp at this;omega
 |p::ps,off,K,hp,h=>by
  have up:∀ K:List Int,K.Pairwise (· < ·)->(∀ n∈K,off<n/\n<off+((p::ps).length:Int))->(K.filterMap λn=>(p::ps)[(n-off).toNat]?).Sublist ps:=λK hp h=>by
   have:=zH7 ps (off+1) K hp λn hn=>by have:=h n hn;simp only [zUv] at this;omega
   rw [show (K.filterMap λn=>(p::ps)[(n-off).toNat]?)=K.filterMap λn=>ps[(n-(off+1)).toNat]? from zKE λn hn=>by
    have:=h n hn
    rw [show (n-off).toNat=(n-(off+1)).toNat+1 by omega,zVf]]
   exact this
  cases K with
  |nil=>simp
  |cons n K=>
   obtain ⟨h1,h2⟩:=zVI.mp hp
   have hn:=h n zU0
   by_cases e:n=off
   ·subst e
    rw [zWB]
    simp only [Int.sub_self,Int.toNat_zero,zVS]
    exact (up K h2 λx hx=>⟨h1 x hx,(h x (zUu _ hx)).2⟩).cons_cons p
   ·refine (up (n::K) hp λx hx=>⟨?_,(h x hx).2⟩).cons p
    rcases zU1.mp hx with rfl|hx
    ·omega
    ·have:=h1 x hx;omega
theorem zNC {ps:List Pl} {K:List Int} (h:zGw ps K) (d:Int):(turns ps d K).Sublist ps:=by
 have:=zH7 ps 0 K h.up λn hn=>by have:=h.inn n hn;omega
 simp only [Int.sub_zero] at this
 exact (List.filter_sublist).trans this
def zD9 (ps:List Pl) (d:Int) (K:List Int):List (Str×Int):=(turns ps d K).flatMap chs
def zI9 (ps:List Pl) (d:Int) (K:List Int) (w:Str):List Int:=apt ps d (sel w (zD9 ps d K))
def zFc (ps:List Pl) (d:Int) (K:List Int):Bool:=match turns ps d K with
 | []=>true
 |t::ts=>(t::ts).all λu=>decide (ask u d=ask t d)
theorem zQQ {ps:List Pl} {d:Int} {K:List Int} (h:zGw ps K) (ha:zFc ps d K=true):zD9 ps d K = []\/∃ e h,(e=d\/h=d)/\(∃ t∈turns ps d K,∃ ch,t = .tell e h ch)/\((zD9 ps d K).map (·.2)).Sublist (tgt ps e h):=by
 have sub:=zNC h d
 have tt:∀ t∈turns ps d K,isT t d=true:=λt ht=>(zV3.mp ht).2
 unfold zD9
 unfold zFc at ha
 cases e:turns ps d K with
 |nil=>left;rfl
 |cons t ts=>
  rw [e] at ha sub tt
  simp only [zWa,zWX] at ha
  have fin:∀ e h,(∀ u∈t::ts,∃ ch,u = .tell e h ch)->((((t::ts).flatMap chs)).map (·.2)).Sublist (tgt ps e h):=λe h k=>by
   have e1:((t::ts).flatMap chs).map (·.2)=(t::ts).flatMap (tg1 e h):=by
    rw [List.map_flatMap]
    have cg:∀ (l:List Pl),(∀ u∈l,∃ ch,u = .tell e h ch)->l.flatMap (λa=>(chs a).map (·.2))=l.flatMap (tg1 e h):=by
     intro l
     induction l with
     |nil=>intro _;rfl
     |cons u l ih=>
      intro k
      obtain ⟨ch,rfl⟩:=k u zU0
      rw [zVX,zVX,ih λv hv=>k v (zUu _ hv)]
      simp [chs,tg1]
    exact cg _ k
   rw [e1]
   exact zPQ sub
  cases t with
  |fin=>
   left
   rw [List.flatMap_eq_nil_iff]
   intro u hu
   have:=ha u hu
   cases u with
   |fin=>rfl
   |tell a b ch=>simp only [ask] at this;split at this<;>cases this
  |tell a b ch=>
   right
   by_cases c:a=d
   ·subst c
    refine ⟨a,b,.inl rfl,⟨_,zU0,ch,rfl⟩,fin a b λu hu=>?_⟩
    have:=ha u hu
    cases u with
    |fin=>simp [ask] at this
    |tell a' b' ch'=>
     simp only [ask,zVp] at this
     split at this
     ·rename_i z;subst z;injection this with this _;subst this;exact ⟨_,rfl⟩
     ·cases this
   ·have hb:b=d:=by
     have:=tt _ zU0
     simp only [isT,tp,zXN,zWX] at this
     rcases this with z|z
     ·exact absurd z.symm c
     ·exact z.symm
    subst hb
    refine ⟨a,b,.inr rfl,⟨_,zU0,ch,rfl⟩,fin a b λu hu=>?_⟩
    have:=ha u hu
    have t2:=tt u hu
    cases u with
    |fin=>simp [ask,c] at this
    |tell a' b' ch'=>
     simp only [ask,c,zV8] at this
     split at this
     ·cases this
     ·rename_i z
      cases this
      simp only [isT,tp,zXN,zWX] at t2
      rcases t2 with q|q
      ·exact absurd q.symm z
      ·subst q;exact ⟨_,rfl⟩
theorem zSS (w:Str) (qs:List (Str×Int)):(sel w qs).Sublist (qs.map (·.2)):=List.Sublist.map _ (List.filter_sublist)
theorem zGy {m:Int} {ps:List Pl} (h:ym m ps) {d:Int} {K:List Int} {t:Pl} (ht:t∈turns ps d K):okP m (λn=>0<=n/\n<(ps.length:Int)) t:=by
 have:=(zV3.mp ht).1
 obtain ⟨n,_,e⟩:=zVR.mp this
 exact h.ok t (zVF e)
theorem zUR {m:Int} {ps:List Pl} (h:ym m ps) {d:Int} {K:List Int} {q:Str×Int} (hq:q∈zD9 ps d K):(0<=q.2/\q.2<(ps.length:Int))/\okW q.1:=by
 obtain ⟨t,ht,hc⟩:=zV5.mp hq
 have ok:=zGy h ht
 refine ⟨ok.next hc,?_⟩
 cases t with
 |fin=>simp [chs] at hc
 |tell a b ch=>exact ok.wd q hc
theorem zND {m:Int} {ps:List Pl} (h:ym m ps) (hf:Few ps) {d:Int} (hd:0<=d/\d<m) {K:List Int} (hk:zGw ps K) (ha:zFc ps d K=true) (w:Str) (hw:w∈wds (zD9 ps d K)) :
  zI9 ps d K w∈zSs ps d/\Inn ps (sel w (zD9 ps d K))/\(sel w (zD9 ps d K)).length<=18:=by
 have inn:Inn ps (sel w (zD9 ps d K)):=λn hn=>by
  obtain ⟨q,hq,rfl⟩:=zVT.mp hn
  exact (zUR h (zV3.mp hq).1).1
 obtain ⟨q,hq,_⟩:=zGu.mp hw
 rcases zQQ hk ha with z|⟨e,e',hdd,⟨t,ht,ch,rfl⟩,s⟩
 ·rw [z] at hq;simp at hq
 ·have s':=(zSS w (zD9 ps d K)).trans s
  have ok:okT m _ e e' ch:=zGy h ht
  have hm:=h.m1
  refine ⟨?_,inn,zVb s'.length_le (by rw [zFA];exact hf _ _)⟩
  refine zUu _ (zV5.mpr ?_)
  have e0:=ok.a0;have e1:=ok.a1;have e2:=ok.b0;have e3:=ok.b1
  rcases hdd with rfl|rfl
  ·exact ⟨e',by rcases four e2 (by omega) with z|z|z|z<;>simp [z],zU2.mpr (.inr (zVT.mpr ⟨_,zKC s',rfl⟩))⟩
  ·exact ⟨e,by rcases four e0 (by omega) with z|z|z|z<;>simp [z],zU2.mpr (.inl (zVT.mpr ⟨_,zKC s',rfl⟩))⟩
theorem zQR {ps:List Pl} (hf:Few ps) {d:Int} {K:List Int} (hk:zGw ps K) (ha:zFc ps d K=true):(zD9 ps d K).length<=18:=by
 rcases zQQ hk ha with z|⟨e,e',_,_,s⟩
 ·rw [z];simp
 ·have:=s.length_le
  rw [zU4,zFA] at this
  exact zVb this (hf _ _)
def qm (K:List Int):D:=.tup (K.map D.int)
def zF9 (Ks:List (List Int)) (K:List Int):Nat:=match Ks with
 | []=>0
 |K'::r=>if K'=K then 0 else zF9 r K+1
theorem zNE {K:List Int}:∀ {Ks:List (List Int)},K∈Ks->zF9 Ks K<Ks.length
 | [],h=>by simp at h
 |K'::r,h=>by
  unfold zF9
  split
  ·simp
  ·rename_i n
   rcases zU1.mp h with e|h
   ·exact absurd e.symm n
   ·have:=zNE h;rw [zUv];omega
theorem zGz {K:List Int} (r:List (List Int)):∀ {Ks:List (List Int)},K∈Ks->zF9 (Ks++r) K=zF9 Ks K
 | [],h=>by simp at h
 |K'::Ks,h=>by
  rw [zVy]
  unfold zF9
  split
  ·rfl
  ·rename_i n
   rcases zU1.mp h with e|h
   ·exact absurd e.symm n
   ·rw [zGz r h]
theorem zKF {K:List Int}:∀ {Ks:List (List Int)},K∈Ks->Ks[zF9 Ks K]?=some K
 | [],h=>by simp at h
 |K'::r,h=>by
  unfold zF9
  split
  ·rename_i e;simp [e]
  ·rename_i n
   rcases zU1.mp h with e|h
   ·exact absurd e.symm n
   ·rw [zVf];exact zKF h
def zDo (i:Nat):List (List Int)->List (List Key×D)
 | []=>[]
 |K::r=>(K.map Sum.inl,.int i)::zDo (i+1) r
abbrev yL (Ks:List (List Int)):List (List Key×D):=zDo 0 Ks
theorem zNF {K K':List Int}:K.map (Sum.inl:Int->Key)=K'.map Sum.inl↔K=K':=by
 constructor
 ·intro h
  induction K generalizing K' with
  |nil=>cases K' with
   |nil=>rfl
   |cons=>simp at h
  |cons a K ih=>cases K' with
   |nil=>simp at h
   |cons b K'=>simp only [zUx,zV9,Sum.inl.injEq] at h;rw [h.1,ih h.2]
 ·rintro rfl;rfl
theorem zG0 {K:List Int}:∀ (Ks:List (List Int)) (i:Nat),zAv (zDo i Ks) (K.map Sum.inl)=if K∈Ks then some (.int ((i+zF9 Ks K:Nat):Int)) else none
 | [],i=>rfl
 |K'::r,i=>by
  have ih:=zG0 (K:=K) r (i+1)
  unfold zAv at ih ⊢
  rw [zDo,zVU]
  by_cases e:K'=K
  ·subst e;simp [zF9]
  ·have e1:¬ (K'.map (Sum.inl:Int->Key))=K.map Sum.inl:=λz=>e (zNF.mp z)
   have e2:¬ K=K':=λz=>e z.symm
   simp only [e1,zV2,zU1,e2,false_or,zF9,e,zV8]
   rw [ih]
   split
   ·congr 3;omega
   ·rfl
theorem zPR {K:List Int} {Ks:List (List Int)} (h:K∉Ks):zRl (yL Ks) (K.map Sum.inl) (.int (Ks.length:Int))=yL (Ks ++ [K]):=by
 have g:∀ (Ks:List (List Int)) (i:Nat),K∉Ks->((zDo i Ks).any λkv=>decide (kv.1=K.map Sum.inl))=false/\zDo i Ks ++ [(K.map Sum.inl,.int ((i+Ks.length:Nat):Int))]=zDo i (Ks ++ [K]):=by
  intro Ks
  induction Ks with
  |nil=>intro i _;exact ⟨rfl,rfl⟩
  |cons K' r ih=>
   intro i h
   obtain ⟨h1,h2⟩:=ih (i+1) λz=>h (zUu _ z)
   refine ⟨?_,?_⟩
   ·rw [zDo,zWO,h1,zWv]
    exact zVh λz=>h (by rw [zNF.mp z];simp)
   ·rw [zDo,zVy,zVy,zDo,<- h2,zUv,show i+(r.length+1)=i+1+r.length by omega]
 obtain ⟨h1,h2⟩:=g Ks 0 h
 unfold zRl
 rw [h1,zVe (by simp)]
 rw [Nat.zero_add] at h2
 exact h2
theorem zKG:∀ (Ks:List (List Int)) (i:Nat),(zDo i Ks).length=Ks.length
 | [],_=>rfl
 |K::r,i=>by rw [zDo,zUv,zKG r,zUv]
theorem zNG (K:List Int):zMW (qm K)=some (K.map Sum.inl):=by
 have:∀ K:List Int,zMV (K.map D.int)=some (K.map Sum.inl):=by
  intro K
  induction K with
  |nil=>rfl
  |cons n K ih=>simp [zMV,zFs,ih]
 exact this K
theorem zUS (w:Str) (n:Int):D.tup [.str w,.int n]=chD (w,n):=rfl
def zGA (Ks:List (List Int)) (N:List Int):List (List Int):=if N∈Ks then Ks else Ks ++ [N]
theorem zKH (Ks:List (List Int)) (N:List Int):N∈zGA Ks N:=by unfold zGA;split<;>simp [*]
theorem zPS (Ks:List (List Int)) (N:List Int):∃ r,zGA Ks N=Ks++r:=by
 unfold zGA;split
 ·exact ⟨[],by simp⟩
 ·exact ⟨[N],rfl⟩
theorem zST {Ks:List (List Int)} {N:List Int} (h:Ks.Nodup):(zGA Ks N).Nodup:=by
 unfold zGA;split
 ·exact h
 ·rename_i n
  exact zVn.mpr ⟨h,by simp,λa ha b hb=>by simp at hb;subst hb;exact λz=>n (z ▸ ha)⟩
theorem zNH {m:Int} {ps:List Pl} {d:Int} {s2 s5 s6 s7 s8 s12:Sl} {Ks:List (List Int)} {qs prs:List (Str×Int)} {w:Str} (hw:w∈wds qs) (ha:qT [dnD m ps,.int d,.tup ((sel w qs).map D.int)]=some (qm (apt ps d (sel w qs)))) (hk:Ks.length<16000000) (hp:prs.length<16000000) :
  zBS [.v (dnD m ps),.v (.int d),s2,.l (Ks.map qm),.o none (.p (.t (yL Ks))),s5,s6,s7,s8,.o none (.p (.ml (yj qs))),.l (prs.map chD),.v (.str w),s12] =
   some (.nx [.v (dnD m ps),.v (.int d),s2,.l ((zGA Ks (apt ps d (sel w qs))).map qm),.o none (.p (.t (yL (zGA Ks (apt ps d (sel w qs)))))),s5,s6,s7,s8,.o none (.p (.ml (yj qs))),.l ((prs ++ [(w,(zF9 (zGA Ks (apt ps d (sel w qs))) (apt ps d (sel w qs)):Int))]).map chD),.v (.str w),.v (qm (apt ps d (sel w qs)))]):=by
 have g:zAv (yj qs) (.inr w)=some ((sel w qs).map D.int):=by unfold yj;rw [zEM (λw=>(sel w qs).map D.int),zVE hw]
 generalize apt ps d (sel w qs)=N at *
 have kN:=zNG N
 have ng:=zG0 (K:=N) Ks 0
 have ng2:=zG0 (K:=N) (zGA Ks N) 0
 rw [zVE (zKH Ks N),Nat.zero_add] at ng2
 have nl:=zKG Ks 0
 unfold zBS
 refine (zm (ρ':=[.v (dnD m ps),.v (.int d),s2,.l (Ks.map qm),.o none (.p (.t (yL Ks))),s5,s6,s7,s8,.o none (.p (.ml (yj qs))),.l (prs.map chD),.v (.str w),.v (qm N)]) ?_).trans ?_
 ·exists 0,zRs,gML,zFs,g,ha,ixO
 ·have s1:(sIf (zT4 4 (gV 12)) (sq (zOg 4 (gV 12) (b1 (gR 3) zEF)) (zFV 3 (gV 12))) (λρ=>some (Out.nx ρ))) [.v (dnD m ps),.v (.int d),s2,.l (Ks.map qm),.o none (.p (.t (yL Ks))),s5,s6,s7,s8,.o none (.p (.ml (yj qs))),.l (prs.map chD),.v (.str w),.v (qm N)] =
   some (.nx [.v (dnD m ps),.v (.int d),s2,.l ((zGA Ks N).map qm),.o none (.p (.t (yL (zGA Ks N)))),s5,s6,s7,s8,.o none (.p (.ml (yj qs))),.l (prs.map chD),.v (.str w),.v (qm N)]):=by
   by_cases c:N∈Ks
   ·rw [zVE c] at ng
    have ea:zGA Ks N=Ks:=by simp [zGA,c]
    rw [ea]
    exists 0,zT4,gT',kN,ng,Option.isSome_some,ixO
   ·rw [zVe c] at ng
    have ea:zGA Ks N=Ks ++ [N]:=by simp [zGA,c]
    have np:=zPR c
    rw [ea]
    have hk2:(zDo 0 Ks).length<16000000:=by rw [nl];exact hk
    exists 0,zT4,gT',zOg,kN,ng,Option.isSome_none,hk2,hk,np,zVK,ixO
  refine (zm s1).trans ?_
  exists 0,tGet,gT',kN,ng2,hp,zVK,zUS,ixO
theorem zGB {m:Int} {ps:List Pl} {d:Int} {s2 s5 s6 s7 s8:Sl} {qs:List (Str×Int)} (B:Nat) (hB:B<8000000) (pl:List (List Int)) (hpl:pl.length<=B)
  (ha:∀ w∈wds qs,apt ps d (sel w qs)∈pl/\qT [dnD m ps,.int d,.tup ((sel w qs).map D.int)]=some (qm (apt ps d (sel w qs)))) :
  ∀ (ws:List Str) (Ks:List (List Int)) (prs:List (Str×Int)) (s11 s12:Sl),(∀ w∈ws,w∈wds qs)->Ks.Nodup->(∀ K∈Ks,K∈pl)->prs.length+ws.length<16000000 ->
   ∃ r s11' s12',(Ks++r).Nodup/\(∀ K∈Ks++r,K∈pl)/\(∀ w∈ws,apt ps d (sel w qs)∈Ks++r) /\
    zc (gN 11) zBS (ws.map D.str) [.v (dnD m ps),.v (.int d),s2,.l (Ks.map qm),.o none (.p (.t (yL Ks))),s5,s6,s7,s8,.o none (.p (.ml (yj qs))),.l (prs.map chD),s11,s12] =
     some (.nx [.v (dnD m ps),.v (.int d),s2,.l ((Ks++r).map qm),.o none (.p (.t (yL (Ks++r)))),s5,s6,s7,s8,.o none (.p (.ml (yj qs))),.l ((prs++ws.map λw=>(w,(zF9 (Ks++r) (apt ps d (sel w qs)):Int))).map chD),s11',s12'])
 | [],Ks,prs,s11,s12,_,hn,hs,_=>⟨[],s11,s12,by simpa using hn,by simpa using hs,by simp,by simp [zc]⟩
 |w::ws,Ks,prs,s11,s12,hw,hn,hs,hl=>by
  have hw0:=hw w zU0
  obtain ⟨a1,a2⟩:=ha w hw0
  rw [zUv] at hl
  have kl:=zGx hn hs
  obtain ⟨r1,er1⟩:=zPS Ks (apt ps d (sel w qs))
  have st:=zNH (s2:=s2) (s5:=s5) (s6:=s6) (s7:=s7) (s8:=s8) (s12:=s12) (Ks:=Ks) (prs:=prs) hw0 a2 (by omega) (by omega)
  have hn1:=zST (N:=apt ps d (sel w qs)) hn
  have hm1:=zKH Ks (apt ps d (sel w qs))
  have hs1:∀ K∈zGA Ks (apt ps d (sel w qs)),K∈pl:=λK hK=>by
   unfold zGA at hK
   split at hK
   ·exact hs K hK
   ·rcases zU2.mp hK with hK|hK
    ·exact hs K hK
    ·simp at hK;subst hK;exact a1
  obtain ⟨r,s11',s12',i1,i2,i3,i4⟩:=zGB B hB pl hpl ha ws (zGA Ks (apt ps d (sel w qs))) (prs ++ [(w,(zF9 (zGA Ks (apt ps d (sel w qs))) (apt ps d (sel w qs)):Int))]) (.v (.str w)) (.v (qm (apt ps d (sel w qs)))) (λv hv=>hw v (zUu _ hv)) hn1 hs1 (by simp;omega)
  have ix:=zGz r hm1
  rw [er1] at st i1 i2 i3 i4 ix hm1
  rw [zVr] at i1 i2 i3
  refine ⟨r1++r,s11',s12',i1,i2,λv hv=>?_,?_⟩
  ·rcases zU1.mp hv with rfl|hv
   ·rw [<- zVr];exact zU2.mpr (.inl hm1)
   ·exact i3 v hv
  ·rw [zUx,zB1 (ρ1:=[.v (dnD m ps),.v (.int d),s2,.l (Ks.map qm),.o none (.p (.t (yL Ks))),s5,s6,s7,s8,.o none (.p (.ml (yj qs))),.l (prs.map chD),.v (.str w),s12]) rfl st,i4,<- zVr,<- ix]
   simp
theorem zCV {F G:Rho->Option zAp} {ρ ρ':Rho} (h:F ρ=some (.o (.nx ρ'))):sqX F G ρ=G ρ':=by simp only [sqX,h,zUw]
theorem zKI {F G:Rho->Option zAp} {ρ:Rho} {c:Nat} (h:F ρ=some (.ex c)):sqX F G ρ=some (.ex c):=by simp only [sqX,h,zUw]
theorem zH8 {F:ROo} {ρ:Rho} {o:Out} (h:F ρ=some o):oX F ρ=some (.o o):=by simp only [oX,h,zVG]
inductive St where
 |fin|rests|act (t:Bool) (o:Int) (prs:List (Str×Int))
def stD:St->D
 |.fin=>.tup [.str "end"]
 |.rests=>.tup [.str "rests"]
 |.act t o prs=>.tup [.str (if t then "tells" else "hears"),.int o,.tup (prs.map chD)]
def qy (ps:List Pl) (d:Int) (K:List Int):List Str:=zAn (wds (zD9 ps d K))
def zBl (ps:List Pl) (d:Int) (Ks:List (List Int)) (K:List Int):List (Str×Int):=(qy ps d K).map λw=>(w,(zF9 Ks (zI9 ps d K w):Int))
def zG1 (ps:List Pl) (d:Int) (Ks:List (List Int)) (K:List Int):St:=match turns ps d K with
 | []=>.rests
 |t::_=>match ask t d with
  |.fin=>.fin
  |.tells b _=>.act true b (zBl ps d Ks K)
  |.hears a=>.act false a (zBl ps d Ks K)
def zKJ (ps:List Pl) (d:Int) (Ks:List (List Int)) (K:List Int):Prop:=∀ w∈qy ps d K,zI9 ps d K w∈Ks
theorem zPT {ps:List Pl} {d:Int} {Ks:List (List Int)} {K:List Int} (h:zKJ ps d Ks K) (r:List (List Int)):zG1 ps d (Ks++r) K=zG1 ps d Ks K:=by
 have:zBl ps d (Ks++r) K=zBl ps d Ks K:=zVx λw hw=>by rw [zGz r (h w hw)]
 unfold zG1
 rw [this]
theorem zNI (x:Ask):inO (match x with | .fin=>D.str "end" | .tells _ _=>D.str "tells" | .hears _=>D.str "hears") (.tup [.str "tells",.str "hears"])=some (.bl (match x with | .fin=>false|_=>true)):=by
 cases x<;>(unfold inO;rw [zVE (by simp [dep])];simp only [zWO,List.any_nil,eqD,zVJ,s_te,s_he,s_th,zWv,Bool.or_true,Bool.true_or])
theorem zPU:inO (D.str "rests") (.tup [.str "tells",.str "hears"])=some (.bl false):=by
 have a:((Str.ofString "tells" : Str) == Str.ofString "rests")=false:=by decide +kernel
 have b:((Str.ofString "hears" : Str) == Str.ofString "rests")=false:=by decide +kernel
 unfold inO;rw [zVE (by simp [dep])];simp only [zWO,List.any_nil,eqD,a,b,zWv]
def zCW (ps:List Pl) (d:Int) (K:List Int):D:=match turns ps d K with
 | []=>.tup [.str "rests"]
 |t::_=>qw (ask t d)
theorem zSU {ps:List Pl} {d:Int} {Ks:List (List Int)} {K:List Int} {s0 s1 s2 s3 s4 s6 s7 s9 s11 s12:Sl} {sts:List St} (hl:sts.length<16000000) :
  (zFV 5 (vIf (bB (b2 (b2 (gR 8) (zR 0) ixO) (λρ=>((zB (λ_=>some (D.str "tells")) (zB (λ_=>some (D.str "hears")) zO)) ρ).map D.tup) inO)) (λρ=>((zB (b2 (gR 8) (zR 0) ixO) (zB (b2 (gR 8) (zR 1) ixO) (zB (b1 (gR 10) zIO) zO))) ρ).map D.tup) (gV 8)))
   [s0,s1,s2,s3,s4,.l (sts.map stD),s6,s7,.v (zCW ps d K),s9,.l ((zBl ps d Ks K).map chD),s11,s12] =
   some (.nx [s0,s1,s2,s3,s4,.l ((sts ++ [zG1 ps d Ks K]).map stD),s6,s7,.v (zCW ps d K),s9,.l ((zBl ps d Ks K).map chD),s11,s12]):=by
 unfold zCW zG1
 cases turns ps d K with
 |nil=>
  have i0:ixO (.tup [.str "rests"]) (.int 0)=some (.str "rests"):=by simp only [ixO,at0]
  exists 0,vIf,i0,zPU,hl,zVK,stD
 |cons t ts=>
  simp only
  generalize ask t d=x
  cases x with
  |fin=>
   have i0:ixO (qw .fin) (.int 0)=some (.str "end"):=by simp only [qw,ixO,at0]
   have ia:=zNI .fin
   exists 0,vIf,i0,ia,hl,zVK,stD
   rfl
  |tells b ws=>
   have i0:ixO (qw (.tells b ws)) (.int 0)=some (.str "tells"):=by simp only [qw,ixO,at0]
   have i1:ixO (qw (.tells b ws)) (.int 1)=some (.int b):=by simp only [qw,ixO,at1]
   have ia:=zNI (.tells b ws)
   exists 0,vIf,i0,i1,ia,hl,zVK,stD
  |hears a=>
   have i0:ixO (qw (.hears a)) (.int 0)=some (.str "hears"):=by simp only [qw,ixO,at0]
   have i1:ixO (qw (.hears a)) (.int 1)=some (.int a):=by simp only [qw,ixO,at1]
   have ia:=zNI (.hears a)
   exists 0,vIf,i0,i1,ia,hl,zVK,stD
theorem zB8 {ps:List Pl} {d:Int} {K:List Int} {w:Str}:w∈qy ps d K↔w∈wds (zD9 ps d K):=zA5
theorem zPV (qs:List (Str×Int)):(yj qs).map (λq=>zLJ q.1)=(wds qs).map D.str:=by
 unfold yj
 rw [zVt]
 rfl
theorem zNJ {l:List Str} (h:l.length<64):zFU (.lst (l.map D.str))=some ((zAn l).map D.str):=zDB h
theorem zUT {m:Int} {ps:List Pl} (h:ym m ps) {e e' n:Int} (hn:n∈tgt ps e e'):0<=n/\n<(ps.length:Int):=by
 obtain ⟨p,hp,hm⟩:=zV5.mp hn
 cases p with
 |fin=>simp [tg1] at hm
 |tell a b ch=>
  simp only [tg1] at hm
  split at hm
  ·obtain ⟨q,hq,rfl⟩:=zVT.mp hm
   exact (h.ok _ hp:okT _ _ _ _ _).nx q hq
  ·simp at hm
theorem zJA {α:Type} {s:List α}:∀ {l:List α},s∈zLK l->s.Sublist l
 | [],h=>by simp [zLK] at h;subst h;simp
 |x::l,h=>by
  rcases zU2.mp h with h|h
  ·exact (zJA h).cons x
  ·obtain ⟨s',h',rfl⟩:=zVT.mp h
   exact (zJA h').cons_cons x
theorem zPW {m:Int} {ps:List Pl} (h:ym m ps) (hf:Few ps) {d:Int} {K:List Int} (hK:K∈zSs ps d):zGw ps K:=by
 have one:∀ e e' S,S∈zLK (tgt ps e e')->zGw ps (apt ps d S):=λe e' S hS=>by
  have s:=zJA hS
  refine (zH6 h d (λn hn=>zUT h (s.subset hn)) ?_).1
  have:=s.length_le
  rw [zFA] at this
  have:=hf e e'
  omega
 rcases zU1.mp hK with rfl|hK
 ·exact (zH6 h d (λn hn=>by simp at hn;subst hn;have:=h.n0;omega) (by simp)).1
 ·obtain ⟨e,_,hK⟩:=zV5.mp hK
  rcases zU2.mp hK with hK|hK
  ·obtain ⟨S,hS,rfl⟩:=zVT.mp hK;exact one _ _ S hS
  ·obtain ⟨S,hS,rfl⟩:=zVT.mp hK;exact one _ _ S hS
structure PS (m:Int) (ps:List Pl) (d:Int):Prop where
 dn:ym m ps
 few:Few ps
 d0:0<=d
 d1:d<m
structure zSV (ps:List Pl) (d:Int) (Ks:List (List Int)) (sts:List St):Prop where
 nd:Ks.Nodup
 pl:∀ K∈Ks,K∈zSs ps d
 st:∀ K∈Ks,zGw ps K
 le:sts.length<=Ks.length
 cl:∀ K∈Ks.take sts.length,zKJ ps d Ks K/\zFc ps d K=true
 eq:sts=(Ks.take sts.length).map (zG1 ps d Ks)
theorem zSV.len {ps:List Pl} {d:Int} {Ks:List (List Int)} {sts:List St} (I:zSV ps d Ks sts) (hf:Few ps):Ks.length<=2097153:=zVb (zGx I.nd I.pl) (zKD hf d)
theorem zUU {s0 s1 s2 s4 s6 s7 s8 s9 s10 s11 s12:Sl} {xs ys:List D}:qF [s0,s1,s2,.l xs,s4,.l ys,s6,s7,s8,s9,s10,s11,s12]=some (decide (ys.length<xs.length)):=by
 exists 0,qF,ixO
 congr 1
 exact zXL.mpr (by omega)
theorem zNK {m:Int} {ps:List Pl} {d:Int} (h:PS m ps d) {vs:List Int} {Ks:List (List Int)} {sts:List St} (I:zSV ps d Ks sts) (hl:sts.length<Ks.length) (s6 s7 s8 s9 s10 s11 s12:Sl) :
  yV [.v (dnD m ps),.v (.int d),.m (tk vs),.l (Ks.map qm),.o none (.p (.t (yL Ks))),.l (sts.map stD),s6,s7,s8,s9,s10,s11,s12]=some (.ex 0) \/
  ∃ r st s6' s7' s8' s9' s10' s11' s12',zSV ps d (Ks++r) (sts ++ [st])/\yV [.v (dnD m ps),.v (.int d),.m (tk vs),.l (Ks.map qm),.o none (.p (.t (yL Ks))),.l (sts.map stD),s6,s7,s8,s9,s10,s11,s12] =
   some (.o (.nx [.v (dnD m ps),.v (.int d),.m (tk vs),.l ((Ks++r).map qm),.o none (.p (.t (yL (Ks++r)))),.l ((sts ++ [st]).map stD),s6',s7',s8',s9',s10',s11',s12'])):=by
 have d4:d<4:=by have:=h.dn.m1;have:=h.d1;omega
 have hK:Ks[sts.length]?=some Ks[sts.length]:=by simp [hl]
 generalize Ks[sts.length]=K at hK
 have mK:K∈Ks:=zVF hK
 have sK:=I.st K mK
 have lK:=sK.len
 have kl:=I.len h.few
 have i1:ixO (.lst (Ks.map qm)) (.int (sts.length:Int))=some (qm K):=by
  have:¬ ((sts.length:Int)<0):=by omega
  have hg:Ks[sts.length]=K:=by rw [List.getElem?_eq_getElem hl] at hK;exact zVs hK
  simp [ixO,atI,ixN,hl,hg]
 have mt:=zM5 (m:=m) d sK.inn (by omega)
 obtain ⟨r,hr,mr⟩:=zPP h.d0 d4 K (turns ps d K) vs (by omega)
 have tl:=zNA ps d K
 have ma:=zI6 h.d0 d4 (turns ps d K) (by omega) λt ht=>(zGy h.dn ht).few
 have st1:yV [.v (dnD m ps),.v (.int d),.m (tk vs),.l (Ks.map qm),.o none (.p (.t (yL Ks))),.l (sts.map stD),s6,s7,s8,s9,s10,s11,s12]=yV [.v (dnD m ps),.v (.int d),.m (tk vs),.l (Ks.map qm),.o none (.p (.t (yL Ks))),.l (sts.map stD),s6,s7,s8,s9,s10,s11,s12]:=rfl
 unfold yV
 have q1:∀ G:Rho->Option zAp,sqX (oX (qI 6 (b2 (gR 3) (b1 (gR 5) zEF) ixO))) G [.v (dnD m ps),.v (.int d),.m (tk vs),.l (Ks.map qm),.o none (.p (.t (yL Ks))),.l (sts.map stD),s6,s7,s8,s9,s10,s11,s12]=G [.v (dnD m ps),.v (.int d),.m (tk vs),.l (Ks.map qm),.o none (.p (.t (yL Ks))),.l (sts.map stD),.v (qm K),s7,s8,s9,s10,s11,s12]:=λG=>
  zCV (zH8 (by exists 0,i1))
 have q2:∀ G:Rho->Option zAp,sqX (oX (qI 7 (λρ=>((zB (gV 0) (zB (gV 1) (zB (gV 6) zO))) ρ).bind yT))) G [.v (dnD m ps),.v (.int d),.m (tk vs),.l (Ks.map qm),.o none (.p (.t (yL Ks))),.l (sts.map stD),.v (qm K),s7,s8,s9,s10,s11,s12]=G [.v (dnD m ps),.v (.int d),.m (tk vs),.l (Ks.map qm),.o none (.p (.t (yL Ks))),.l (sts.map stD),.v (qm K),.v (.lst ((turns ps d K).map plD)),s8,s9,s10,s11,s12]:=λG=>
  zCV (zH8 (by exists 0,qm,mt))
 have e3:(zMR (zRw 2 (aCo (gV 1) (aCo (gV 6) (aCo (gV 7) zO))) zq)) [.v (dnD m ps),.v (.int d),.m (tk vs),.l (Ks.map qm),.o none (.p (.t (yL Ks))),.l (sts.map stD),.v (qm K),.v (.lst ((turns ps d K).map plD)),s8,s9,s10,s11,s12]=(some r:Option (Except Nat D)).map (λr=>match r with | .ok _=>.o (.nx [.v (dnD m ps),.v (.int d),.m (tk vs),.l (Ks.map qm),.o none (.p (.t (yL Ks))),.l (sts.map stD),.v (qm K),.v (.lst ((turns ps d K).map plD)),s8,s9,s10,s11,s12]) | .error c=>.ex c):=by
  rw [<- mr]
  rfl
 rw [q1,q2]
 rcases hr with rfl|rfl
 ·rw [zCV e3]
  by_cases al:zFc ps d K=true
  ·right
   have ma':yJ [.lst ((turns ps d K).map plD),.int d]=some (.ok (zCW ps d K)):=by
    rw [ma]
    unfold zFc at al
    unfold zCW zJ5
    cases e:turns ps d K with
    |nil=>rfl
    |cons t ts=>rw [e] at al;simp only at al ⊢;rw [zVE al]
   have qf:=zQR h.few sK al
   have nx:=λw hw=>zND h.dn h.few ⟨h.d0,h.d1⟩ sK al w hw
   have ap:=λw (hw:w∈wds (zD9 ps d K))=>zH6 h.dn d (nx w hw).2.1 (by have:=(nx w hw).2.2;omega)
   have mn:=zSQ (ts:=turns ps d K) (by show (zD9 ps d K).length<=1000;omega)
   have wl:=zI7 (zD9 ps d K)
   have sl:(qy ps d K).length<=18:=by unfold qy;rw [zA6];omega
   have so:=zNJ (l:=wds (zD9 ps d K)) (by omega)
   obtain ⟨rr,s11',s12',p1,p2,p3,p4⟩:=zGB (m:=m) (ps:=ps) (d:=d) (s2:=.m (tk vs)) (s5:=.l (sts.map stD)) (s6:=.v (qm K)) (s7:=.v (.lst ((turns ps d K).map plD))) (s8:=.v (zCW ps d K)) (qs:=zD9 ps d K) 2097153 (by decide) (zSs ps d) (zKD h.few d) (λw hw=>⟨(nx w hw).1,(ap w hw).2⟩) (qy ps d K) Ks [] s11 s12 (λw hw=>zB8.mp hw) I.nd I.pl (by simp;omega)
   have ePr:([]++(qy ps d K).map λw=>(w,(zF9 (Ks++rr) (apt ps d (sel w (zD9 ps d K))):Int)))=zBl ps d (Ks++rr) K:=by rw [zWA];rfl
   rw [ePr,zV7] at p4
   refine ⟨rr,zG1 ps d (Ks++rr) K,.v (qm K),.v (.lst ((turns ps d K).map plD)),.v (zCW ps d K),.o none (.p (.ml (yj (zD9 ps d K)))),.l ((zBl ps d (Ks++rr) K).map chD),s11',s12',?_,?_⟩
   ·have cK:zKJ ps d (Ks++rr) K:=p3
    have tk1:(Ks++rr).take (sts ++ [zG1 ps d (Ks++rr) K]).length=Ks.take sts.length ++ [K]:=by
     rw [zU9,zVY,List.take_append_of_le_length (by omega),List.take_succ,hK];rfl
    refine ⟨p1,p2,λK' hK'=>?_,by simp;omega,λK' hK'=>?_,?_⟩
    ·rcases zU2.mp hK' with hK' | hK'
     ·exact I.st K' hK'
     ·exact zPW h.dn h.few (p2 K' (zU2.mpr (.inr hK')))
    ·rw [tk1] at hK'
     rcases zU2.mp hK' with hK' | hK'
     ·obtain ⟨c1,c2⟩:=I.cl K' hK'
      exact ⟨λw hw=>zU2.mpr (.inl (c1 w hw)),c2⟩
     ·simp at hK';subst hK';exact ⟨cK,al⟩
    ·rw [tk1,zVK,List.map_singleton]
     congr 1
     rw [show (Ks.take sts.length).map (zG1 ps d (Ks++rr))=(Ks.take sts.length).map (zG1 ps d Ks) from zVx λK' hK'=>zPT (I.cl K' hK').1 rr]
     exact I.eq
   ·refine (zCV (ρ':=[.v (dnD m ps),.v (.int d),.m (tk vs),.l (Ks.map qm),.o none (.p (.t (yL Ks))),.l (sts.map stD),.v (qm K),.v (.lst ((turns ps d K).map plD)),.v (zCW ps d K),s9,s10,s11,s12]) ?_).trans ?_
    ·exists 0,zOb,ma'
    ·refine zH8 ?_
     refine (zm (ρ':=[.v (dnD m ps),.v (.int d),.m (tk vs),.l (Ks.map qm),.o none (.p (.t (yL Ks))),.l (sts.map stD),.v (qm K),.v (.lst ((turns ps d K).map plD)),.v (zCW ps d K),.o none (.p (.ml (yj (zD9 ps d K)))),s10,s11,s12]) ?_).trans ?_
     ·exists 0,zFY,mn
      rfl
     ·refine (zm (ρ':=[.v (dnD m ps),.v (.int d),.m (tk vs),.l (Ks.map qm),.o none (.p (.t (yL Ks))),.l (sts.map stD),.v (qm K),.v (.lst ((turns ps d K).map plD)),.v (zCW ps d K),.o none (.p (.ml (yj (zD9 ps d K)))),.l [],s11,s12]) rfl).trans ?_
      refine (zm ((zAS (ds:=(qy ps d K).map D.str) ?_).trans p4)).trans ?_
      ·exists 0,zMf,gML,zPV,so,qy
      ·exact zSU (by omega)
  ·left
   refine zKI ?_
   have ma':yJ [.lst ((turns ps d K).map plD),.int d]=some (.error 0):=by
    rw [ma]
    unfold zFc at al
    unfold zJ5
    cases e:turns ps d K with
    |nil=>rw [e] at al;exact absurd rfl al
    |cons t ts=>rw [e] at al;simp only at al ⊢;rw [zVe al]
   exists 0,zOb,ma'
 ·left;exact zKI e3
theorem zNL {c:ROb} {F:Rho->Option zAp} {k:Nat} {ρ ρ':Rho} (h:c ρ=some true) (e:F ρ=some (.o (.nx ρ'))):zAd c F (k+1) ρ=zAd c F k ρ':=by
 simp only [zAd,h,zUw,zVp,e]
theorem zNM {c:ROb} {F:Rho->Option zAp} {k n:Nat} {ρ:Rho} (h:c ρ=some true) (e:F ρ=some (.ex n)):zAd c F (k+1) ρ=some (.ex n):=by
 simp only [zAd,h,zUw,zVp,e]
theorem zK0 {c:ROb} {F:Rho->Option zAp} {k:Nat} {ρ:Rho} (h:c ρ=some false):zAd c F (k+1) ρ=some (.o (.nx ρ)):=by
 simp [zAd,h]
theorem zH9 {m:Int} {ps:List Pl} {d:Int} (h:PS m ps d) (vs:List Int):∀ (n:Nat) (Ks:List (List Int)) (sts:List St) (s6 s7 s8 s9 s10 s11 s12:Sl),zSV ps d Ks sts->2097153<n+sts.length ->
  zAd qF yV n [.v (dnD m ps),.v (.int d),.m (tk vs),.l (Ks.map qm),.o none (.p (.t (yL Ks))),.l (sts.map stD),s6,s7,s8,s9,s10,s11,s12]=some (.ex 0) \/
  ∃ r sts' s6' s7' s8' s9' s10' s11' s12',zSV ps d (Ks++r) sts'/\sts'.length=(Ks++r).length/\zAd qF yV n [.v (dnD m ps),.v (.int d),.m (tk vs),.l (Ks.map qm),.o none (.p (.t (yL Ks))),.l (sts.map stD),s6,s7,s8,s9,s10,s11,s12] =
   some (.o (.nx [.v (dnD m ps),.v (.int d),.m (tk vs),.l ((Ks++r).map qm),.o none (.p (.t (yL (Ks++r)))),.l (sts'.map stD),s6',s7',s8',s9',s10',s11',s12']))
 |0,Ks,sts,s6,s7,s8,s9,s10,s11,s12,I,hn=>by have:=I.len h.few;have:=I.le;omega
 |n+1,Ks,sts,s6,s7,s8,s9,s10,s11,s12,I,hn=>by
  have tp:=zUU (s0:=.v (dnD m ps)) (s1:=.v (.int d)) (s2:=.m (tk vs)) (s4:=.o none (.p (.t (yL Ks)))) (s6:=s6) (s7:=s7) (s8:=s8) (s9:=s9) (s10:=s10) (s11:=s11) (s12:=s12) (xs:=Ks.map qm) (ys:=sts.map stD)
  rw [zU4,zU4] at tp
  by_cases hl:sts.length<Ks.length
  ·rw [zVz hl] at tp
   rcases zNK h (vs:=vs) I hl s6 s7 s8 s9 s10 s11 s12 with e|⟨r,st,a6,a7,a8,a9,a10,a11,a12,I',e⟩
   ·left;exact zNM tp e
   ·rw [zNL tp e]
    rcases zH9 h vs n (Ks++r) (sts ++ [st]) a6 a7 a8 a9 a10 a11 a12 I' (by simp;omega) with e' | ⟨r',sts',b6,b7,b8,b9,b10,b11,b12,J,jl,e'⟩
    ·left;exact e'
    ·right
     rw [zVr] at J jl e'
     exact ⟨r++r',sts',b6,b7,b8,b9,b10,b11,b12,J,jl,e'⟩
  ·rw [zVh hl] at tp
   right
   refine ⟨[],sts,s6,s7,s8,s9,s10,s11,s12,by simpa using I,by have:=I.le;simp;omega,?_⟩
   rw [zK0 tp,zVZ]
structure IsPart (ps:List Pl) (d:Int) (Ks:List (List Int)):Prop where
 nd:Ks.Nodup
 ze:Ks[0]?=some (apt ps d [0])
 st:∀ K∈Ks,zGw ps K
 cl:∀ K∈Ks,zKJ ps d Ks K
 al:∀ K∈Ks,zFc ps d K=true
 le:Ks.length<=2097153
def zUV (ps:List Pl) (d:Int) (Ks:List (List Int)):D:=.tup ((Ks.map (zG1 ps d Ks)).map stD)
theorem zSW {N:List Str} {F:Rho->Option zAp} {ds:List D} {ρ:Rho} (h:ds.map Sl.v++List.replicate (N.length-ds.length) .un=ρ):zRa N F ds=(F ρ).bind λo=>match o with
  |.o (.rt d)=>some (.ok d)
  |.o (.nx _)=>some (.ok .non)
  |.ex c=>some (.error c)
  |_=>none:=by subst h;rfl
theorem zG2 {i:Nat} {fl:ROl} {F:List D->Option Sl} {ρ:Rho} {ds:List D} {s:Sl} (h1:fl ρ=some ds) (h2:F ds=some s):zFY i fl F ρ=some (.nx (ρ.set i s)):=by
 unfold zFY;rw [h1,zUw,h2,zVG]
theorem zUW {m:Int} {ps:List Pl} {d:Int} (h:PS m ps d) (N:Nat) (hN:2097153<N) :
  (sqX (oX (zFY 2 (zB (gV 0) (zB (gV 1) zO)) ql)) (sqX (oX (qr 3 (zB (λρ=>((zB (gV 0) (zB (gV 1) (zB (λρ=>((zB (zR 0) zO) ρ).map D.tup) zO))) ρ).bind qT) zO))) (sqX (oX (zKr 4 (b2 (gR 3) (zR 0) ixO) (zR 0))) (sqX (oX (qr 5 zO)) (sqX (zEq N qF yV) (oX (zAC (b1 (gR 5) zIO)))))))) [.v (dnD m ps),.v (.int d),.un,.un,.un,.un,.un,.un,.un,.un,.un,.un,.un]=some (.ex 0) \/
  ∃ Ks,IsPart ps d Ks/\(sqX (oX (zFY 2 (zB (gV 0) (zB (gV 1) zO)) ql)) (sqX (oX (qr 3 (zB (λρ=>((zB (gV 0) (zB (gV 1) (zB (λρ=>((zB (zR 0) zO) ρ).map D.tup) zO))) ρ).bind qT) zO))) (sqX (oX (zKr 4 (b2 (gR 3) (zR 0) ixO) (zR 0))) (sqX (oX (qr 5 zO)) (sqX (zEq N qF yV) (oX (zAC (b1 (gR 5) zIO)))))))) [.v (dnD m ps),.v (.int d),.un,.un,.un,.un,.un,.un,.un,.un,.un,.un,.un]=some (.o (.rt (zUV ps d Ks))):=by
 obtain ⟨vs,mv⟩:=zUQ h.dn d
 obtain ⟨s0,a0⟩:=zH6 h.dn d (S:=[0]) (λn hn=>by simp at hn;subst hn;have:=h.dn.n0;omega) (by simp)
 simp only [zUx,zV7] at a0
 have kz:=zNG (apt ps d [0])
 have I0:zSV ps d [apt ps d [0]] []:=⟨by simp,λK hK=>by simp at hK;subst hK;exact zU0,λK hK=>by simp at hK;subst hK;exact s0,by simp,by simp,by simp⟩
 have pre:∀ G:Rho->Option zAp,(sqX (oX (zFY 2 (zB (gV 0) (zB (gV 1) zO)) ql)) (sqX (oX (qr 3 (zB (λρ=>((zB (gV 0) (zB (gV 1) (zB (λρ=>((zB (zR 0) zO) ρ).map D.tup) zO))) ρ).bind qT) zO))) (sqX (oX (zKr 4 (b2 (gR 3) (zR 0) ixO) (zR 0))) (sqX (oX (qr 5 zO)) G)))) [.v (dnD m ps),.v (.int d),.un,.un,.un,.un,.un,.un,.un,.un,.un,.un,.un] =
   G [.v (dnD m ps),.v (.int d),.m (tk vs),.l ([apt ps d [0]].map qm),.o none (.p (.t (yL [apt ps d [0]]))),.l (([]:List St).map stD),.un,.un,.un,.un,.un,.un,.un]:=λG=>by
  refine (zCV (ρ':=[.v (dnD m ps),.v (.int d),.m (tk vs),.un,.un,.un,.un,.un,.un,.un,.un,.un,.un]) (zH8 ?_)).trans ((zCV (ρ':=[.v (dnD m ps),.v (.int d),.m (tk vs),.l [qm (apt ps d [0])],.un,.un,.un,.un,.un,.un,.un,.un,.un]) (zH8 ?_)).trans ((zCV (ρ':=[.v (dnD m ps),.v (.int d),.m (tk vs),.l [qm (apt ps d [0])],.o none (.p (.t (yL [apt ps d [0]]))),.un,.un,.un,.un,.un,.un,.un,.un]) (zH8 ?_)).trans (zCV (zH8 rfl))))
  ·exact zG2 rfl mv
  ·exists 0,a0
   rfl
  ·have i0:ixO (.lst [qm (apt ps d [0])]) (.int 0)=some (qm (apt ps d [0])):=by simp only [ixO,at0]
   exists 0,zKr,i0,kz
   rfl
 have lp:=zH9 h vs N [apt ps d [0]] [] .un .un .un .un .un .un .un I0 (by simpa using hN)
 rw [pre]
 unfold zEq
 rcases lp with e|⟨r,sts,s6,s7,s8,s9,s10,s11,s12,I,hl,e⟩
 ·left
  exact zKI e
 ·right
  have tkl:([apt ps d [0]]++r).take sts.length = [apt ps d [0]]++r:=by rw [hl];exact zXJ
  refine ⟨[apt ps d [0]]++r,⟨I.nd,rfl,I.st,λK hK=>(I.cl K (by rw [tkl];exact hK)).1,λK hK=>(I.cl K (by rw [tkl];exact hK)).2,I.len h.few⟩,?_⟩
  have es:=I.eq
  rw [tkl] at es
  rw [zCV e]
  show some (zAp.o (Out.rt (D.tup (sts.map stD))))=some (zAp.o (Out.rt (D.tup ((([apt ps d [0]]++r).map (zG1 ps d ([apt ps d [0]]++r))).map stD))))
  rw [<- es]
theorem zSX {m:Int} {ps:List Pl} {d:Int} (h:PS m ps d):qA [dnD m ps,.int d]=some (.error 0)\/∃ Ks,IsPart ps d Ks/\qA [dnD m ps,.int d]=some (.ok (zUV ps d Ks)):=by
 have q:=zUW h 20000000 (by decide)
 unfold qA
 rw [zSW (ρ:=[.v (dnD m ps),.v (.int d),.un,.un,.un,.un,.un,.un,.un,.un,.un,.un,.un]) rfl]
 unfold zE8
 rcases q with e|⟨Ks,hk,e⟩
 ·left;rw [e];rfl
 ·right;refine ⟨Ks,hk,?_⟩;rw [e];rfl
abbrev zDp:List Str:=["thing"]
def zDq:ROo:=(zAC (zOG (b1 (gR 0) (zTu "int")) (vNot (b1 (gR 0) (zTu "bool")))))
def zAD (ds:List D):Option D:=zDY zDp zDq ds
def zDE (C:Addr):Rho->Option (Except Nat D):=(λρ=>((zB (gV 1) (zB (gV 2) zO)) ρ).bind qA)
def zCL (C:Addr):ROd:=(zR 0)
abbrev zNN:List Str:=["self","dance"]
def zGC (C:Addr):Rho->Option zAp:=(sqX (zHw C 0 "parts" (zF2 1 (iR1 (zB (b2 (gR 1) (zR 0) ixO) zO)) (gN 2) (zDE C))) (oX (sq (λρ=>((zK 1 (iL (λρ=>(zHH C 0 "parts" ρ).bind flV)) (gN 2) (λ_=>some true) (zCL C)) ρ).bind λxs=>zC8 C 0 "at" (.f (.l xs)) ρ) (sq (λρ=>zC8 C 0 "rows" (.f (.tl [])) ρ) (λρ=>(zO ρ).bind λxs=>zC8 C 0 "past" (.f (.l xs)) ρ)))))
def zFB (C:Addr) (x:Ob) (ds:List D):Option (Except Nat Ob):=zIo λa=>zT8 zNN (zGC C) a x ds
abbrev zSY:List Str:=["self","one","other"]
def zPX (C:Addr):ROo:=(zAC (b1 (rGet C 0 "rows" (λρ=>((zB (gV 1) (zB (gV 2) zO)) ρ).map D.tup) (λρ=>(zO ρ).map D.tup)) zIO))
def zG3 (C:Addr) (x:Ob) (ds:List D):Option D:=zIo λa=>zNu zSY (zPX C) a x ds
abbrev zDr:List Str:=["self","dancer"]
def zDs (C:Addr):ROo:=(zAC (b2 (b2 (λρ=>(zHH C 0 "parts" ρ).bind flR) (gR 1) ixO) (b2 (λρ=>(zHH C 0 "at" ρ).bind flR) (gR 1) ixO) ixO))
def yw (C:Addr) (x:Ob) (ds:List D):Option D:=zIo λa=>zNu zDr (zDs C) a x ds
def zAh (C:Addr):ROd:=(λρ=>((zB (λ_=>some (D.str "tell")) (zB (gV 1) (zB (b2 (gR 2) (zR 1) ixO) (zB (gV 4) zO)))) ρ).map D.tup)
def zAi (C:Addr):ROb:=(bB (b2 (λρ=>((zB (gV 4) zO) ρ).map D.tup) (gR 3) eqO))
def zAj (C:Addr):ROd:=(λρ=>((zB (λ_=>some (D.str "hear")) (zB (b2 (gR 2) (zR 1) ixO) (zB (gV 1) (zB (gV 4) zO)))) ρ).map D.tup)
abbrev zDt:List Str:=["self","dancer","state","first"]
def zCM (C:Addr):ROo:=(sq (qI 2 (qz C "state_of" 0 (zB (gV 1) zO) (yw C))) (sq (sIf (bB (b2 (b2 (gR 2) (zR 0) ixO) (λ_=>some (D.str "tells")) eqO)) (zHv (zK 2 (iT (b2 (gR 2) (zR 2) ixO)) (gT 2 (gCs (gN 4) (gCs (gN 5) gNl))) (λ_=>some true) (zAh C))) (λρ=>some (Out.nx ρ))) (sq (sIf (bB (b2 (b2 (gR 2) (zR 0) ixO) (λ_=>some (D.str "hears")) eqO)) (sq (qI 3 (b3S (qz C "row" 0 (zB (b2 (gR 2) (zR 1) ixO) (zB (gV 1) zO)) (zG3 C)) (λ_=>some none) (oI (zR 1)) slD)) (zHv (zK 2 (iT (b2 (gR 2) (zR 2) ixO)) (gT 2 (gCs (gN 4) (gCs (gN 5) gNl))) (zAi C) (zAj C)))) (λρ=>some (Out.nx ρ))) (zHv zO))))
def zBA (C:Addr) (x:Ob) (ds:List D):Option (List D):=zIo λa=>zT7 zDt (zCM C) a x ds
def zDF (C:Addr):ROo:=(zTr 1 (zJy C "moves_of" 0 (zB (gV 2) zO) (zBA C)))
abbrev zJB:List Str:=["self","found","dancer"]
def zG4 (C:Addr):ROo:=(sq (qr 1 zO) (sq (zi (iR1 (zB (b1 (λρ=>(zHH C 0 "parts" ρ).bind flR) zEF) zO)) (gN 2) (zDF C)) (zAC (b1 (gR 1) zIO))))
def zAs (C:Addr) (x:Ob) (ds:List D):Option D:=zIo λa=>zNu zJB (zG4 C) a x ds
abbrev zBT:List Str:=["self","move"]
def q9 (C:Addr):ROo:=(zAC (zOG (b2 (gV 1) (qz C "moves" 0 zO (zAs C)) inO) (zOG (λρ=>((zB (b2 (gR 1) (zR 1) ixO) zO) ρ).bind zAD) (λρ=>((zB (b2 (gR 1) (zR 2) ixO) zO) ρ).bind zAD))))
def yx (C:Addr) (x:Ob) (ds:List D):Option D:=zIo λa=>zNu zBT (q9 C) a x ds
abbrev zJC:List Str:=["self","dancer","word"]
def zFC (C:Addr):ROo:=(zRf C 0 "at" (gV 1) (dIx (b2 (qz C "state_of" 0 (zB (gV 1) zO) (yw C)) (zR 2) ixO) (gV 2)))
def zB9 (C:Addr) (x:Ob) (ds:List D):Option Ob:=zIo λa=>runM zJC (zFC C) a x ds
abbrev n_do:List Str:=["self","move","pair"]
def zUX (C:Addr):ROo:=(sq (sIf (zRH (zLI (qz C "can_be_done" 0 (zB (gV 1) zO) (yx C)))) (λ_=>none) (λρ=>some (Out.nx ρ))) (sq (qI 2 (λρ=>((zB (b2 (gR 1) (zR 1) ixO) (zB (b2 (gR 1) (zR 2) ixO) zO)) ρ).map D.tup)) (sq (sIf (bB (b2 (b2 (gR 1) (zR 0) ixO) (λ_=>some (D.str "tell")) eqO)) (sq (zMY C 0 "rows" (gV 2) (b2 (gR 1) (zR 3) ixO)) (zFX C "go_on" 0 (zB (b2 (gR 1) (zR 1) ixO) (zB (b2 (gR 1) (zR 3) ixO) zO)) (zB9 C))) (sq (zMX C 0 "rows" (gV 2)) (zFX C "go_on" 0 (zB (b2 (gR 1) (zR 2) ixO) (zB (b2 (gR 1) (zR 3) ixO) zO)) (zB9 C)))) (zOc C 0 "past" (gV 1)))))
def zNv (C:Addr) (x:Ob) (ds:List D):Option Ob:=zIo λa=>runM n_do (zUX C) a x ds
abbrev zNO:List Str:=["self"]
def zNP (C:Addr):ROo:=(zAC (b1 (λρ=>(zHH C 0 "past" ρ).bind flR) zIO))
def zIA (C:Addr) (x:Ob) (ds:List D):Option D:=zIo λa=>zNu zNO (zNP C) a x ds
abbrev zDu:List Str:=["_law_dance_here","_law_hall_here"]
def zCN (C:Addr):ROo:=(sq (qI 1 (λ_=>some D.non)) (sq (zF1 C 1 (zB (gV 0) zO) (zFB C) 0 (qI 1 (λ_=>some D.non))) (zMj 1)))
def zAE (C:Addr) (ds:List D):Option Sl:=zSr zDu (zCN C) ds
def kv (q:Str×Int):Key×D:=(.inr q.1,.int q.2)
theorem zKK:∀ (ch:List (Str×Int)),zFt (ch.map chD)=some (ch.map kv)
 | []=>rfl
 |q::ch=>by simp [zFt,chD,zFs,zKK ch,kv]
theorem zPY {kvs:List (Key×D)} {k:Key} {v:D} (h:∀ q∈kvs,q.1≠k):zKo kvs k v=kvs ++ [(k,v)]:=by
 unfold zKo
 rw [zVe]
 simp only [zXG,zWX,not_exists,not_and]
 exact h
theorem zKL:∀ (ch:List (Str×Int)) (acc:List (Key×D)),(ch.map (·.1)).Pairwise (·≠·)->(∀ q∈ch,∀ a∈acc,a.1≠(kv q).1)->(ch.map kv).foldl (λacc p=>zKo acc p.1 p.2) acc=acc++ch.map kv
 | [],acc,_,_=>by simp
 |q::ch,acc,h,k=>by
  rw [zUx] at h
  obtain ⟨h1,h2⟩:=zVI.mp h
  simp only [zUx,zWg]
  rw [zPY (k q zU0),zKL ch _ h2]
  ·simp
  ·intro q' hq' a ha
   rcases zU2.mp ha with ha|ha
   ·exact k q' (zUu _ hq') a ha
   ·simp at ha
    subst ha
    intro e
    have:q.1=q'.1:=by simpa [kv] using e
    exact h1 q'.1 (List.mem_map_of_mem hq') this
theorem zNQ {ch:List (Str×Int)} (h:ya (ch.map (·.1))) (hl:ch.length<=1000):zHm (.tup (ch.map chD))=some (ch.map kv):=by
 unfold zHm
 simp only [zU4]
 rw [zVE (by omega),zKK]
 simp only [zVG]
 rw [zKL ch [] (List.Pairwise.imp (λh=>h.ne) h) (by simp)]
 simp
theorem zNR (w:Str):∀ (ch:List (Str×Int)),zC2 (ch.map kv) (.inr w)=((ch.find? λq=>decide (q.1=w)).map (·.2)).map D.int
 | []=>rfl
 |q::ch=>by
  have ih:=zNR w ch
  unfold zC2 at ih ⊢
  simp only [zUx,zVU]
  by_cases e:q.1=w
  ·simp [kv,e]
  ·have e':¬ (Sum.inr q.1:Key)=Sum.inr w:=λz=>e (by simpa using z)
   simp only [kv,e,e',zV2]
   exact ih
structure Mv where
 t:Bool
 a:Int
 b:Int
 w:Str
deriving DecidableEq
def zBm (t:Bool):Str:=if t then "tell" else "hear"
def mvD (v:Mv):D:=.tup [.str (zBm v.t),.int v.a,.int v.b,.str v.w]
structure Hl where
 P:List (List St)
 at':List Int
 R:List ((Int×Int)×List Str)
 past:List Mv
def rkD (k:Int×Int):List Key:=[.inl k.1,.inl k.2]
def rsD (R:List ((Int×Int)×List Str)):List (List Key×List D):=R.map λq=>(rkD q.1,q.2.map D.str)
def ptD (p:List St):D:=.tup (p.map stD)
def hlO (C:Addr) (h:Hl):Ob:=.ins C [("parts",.v (.lst (h.P.map ptD))),("at",.f (.l (h.at'.map D.int))),("rows",.f (.tl (rsD h.R))),("past",.f (.l (h.past.map mvD)))]
theorem zFD:(Str.ofString "at" == Str.ofString "parts")=false:=by decide +kernel
theorem zDG:(Str.ofString "rows" == Str.ofString "parts")=false:=by decide +kernel
theorem zDH:(Str.ofString "past" == Str.ofString "parts")=false:=by decide +kernel
theorem zGD:(Str.ofString "rows" == Str.ofString "at")=false:=by decide +kernel
theorem zGE:(Str.ofString "past" == Str.ofString "at")=false:=by decide +kernel
theorem zD3:(Str.ofString "past" == Str.ofString "rows")=false:=by decide +kernel
theorem zJD:(Str.ofString "parts" == Str.ofString "at")=false:=by decide +kernel
theorem zG5:(Str.ofString "parts" == Str.ofString "rows")=false:=by decide +kernel
theorem zG6:(Str.ofString "parts" == Str.ofString "past")=false:=by decide +kernel
theorem zK1:(Str.ofString "at" == Str.ofString "rows")=false:=by decide +kernel
theorem zK2:(Str.ofString "at" == Str.ofString "past")=false:=by decide +kernel
theorem zIB:(Str.ofString "rows" == Str.ofString "past")=false:=by decide +kernel
theorem zIC (C:Addr) (h:Hl):zC6 C "parts" (hlO C h)=some (.v (.lst (h.P.map ptD))):=by
 simp only [zC6,hlO,zVp,zVM,zVJ]
theorem zQS (C:Addr) (h:Hl):zC6 C "at" (hlO C h)=some (.f (.l (h.at'.map D.int))):=by
 simp only [zC6,hlO,zVp,zVM,zVJ,zFD]
theorem zKM (C:Addr) (h:Hl):zC6 C "rows" (hlO C h)=some (.f (.tl (rsD h.R))):=by
 simp only [zC6,hlO,zVp,zVM,zVJ,zDG,zGD]
theorem zKN (C:Addr) (h:Hl):zC6 C "past" (hlO C h)=some (.f (.l (h.past.map mvD))):=by
 simp only [zC6,hlO,zVp,zVM,zVJ,zDH,zGE,zD3]
theorem zD4 (C:Addr) (h:Hl) (m:Str) (h1:(m == Str.ofString "parts")=false) (h2:(m == Str.ofString "at")=false) (h3:(m == Str.ofString "rows")=false) (h4:(m == Str.ofString "past")=false):zBj C m (hlO C h)=true:=by
 simp only [zBj,hlO,zW6,zVM,h1,h2,h3,h4,zXP,Option.isNone_none,Bool.and_self]
theorem zFE (C:Addr) (h:Hl):zBj C "state_of" (hlO C h)=true:=zD4 C h _ (by decide +kernel) (by decide +kernel) (by decide +kernel) (by decide +kernel)
theorem zQT (C:Addr) (h:Hl):zBj C "row" (hlO C h)=true:=zD4 C h _ (by decide +kernel) (by decide +kernel) (by decide +kernel) (by decide +kernel)
theorem zJE (C:Addr) (h:Hl):zBj C "moves_of" (hlO C h)=true:=zD4 C h _ (by decide +kernel) (by decide +kernel) (by decide +kernel) (by decide +kernel)
theorem zG7 (C:Addr) (h:Hl):zBj C "moves" (hlO C h)=true:=zD4 C h _ (by decide +kernel) (by decide +kernel) (by decide +kernel) (by decide +kernel)
theorem zUY (C:Addr) (h:Hl):zBj C "can_be_done" (hlO C h)=true:=zD4 C h _ (by decide +kernel) (by decide +kernel) (by decide +kernel) (by decide +kernel)
theorem zUZ (C:Addr) (h:Hl):zBj C "do" (hlO C h)=true:=zD4 C h _ (by decide +kernel) (by decide +kernel) (by decide +kernel) (by decide +kernel)
theorem zKO (C:Addr) (h:Hl):zBj C "go_on" (hlO C h)=true:=zD4 C h _ (by decide +kernel) (by decide +kernel) (by decide +kernel) (by decide +kernel)
theorem zSZ (C:Addr) (h:Hl):zBj C "done" (hlO C h)=true:=zD4 C h _ (by decide +kernel) (by decide +kernel) (by decide +kernel) (by decide +kernel)
structure OkA (n:Nat) (o:Int) (prs:List (Str×Int)):Prop where
 few:prs.length<=18
 rs:ya (prs.map (·.1))
 wd:∀ q∈prs,okW q.1
 nx:∀ q∈prs,0<=q.2/\q.2<(n:Int)
def OkSt (n:Nat):St->Prop
 |.act _ o prs=>OkA n o prs
 |_=>True
structure HOk (k:Nat) (h:Hl):Prop where
 len:h.at'.length=h.P.length
 m4:h.P.length<=4
 inn:∀ (i:Nat) (p:List St) (n:Int),h.P[i]?=some p->h.at'[i]?=some n->0<=n/\n<(p.length:Int)
 st:∀ p∈h.P,∀ s∈p,OkSt p.length s
 rn:h.R.length<=k
 rl:∀ q∈h.R,q.2.length<=k
 pl:h.past.length<=k
def zID (h:Hl) (i:Nat):Option St:=(h.P[i]?).bind λp=>(h.at'[i]?).bind λn=>p[n.toNat]?
theorem zFF {k:Nat} {h:Hl} (H:HOk k h) {i:Nat} (hi:i<h.P.length):∃ p n s,h.P[i]?=some p/\h.at'[i]?=some n/\p[n.toNat]?=some s/\zID h i=some s/\(0<=n/\n<(p.length:Int))/\OkSt p.length s:=by
 have e1:h.P[i]?=some h.P[i]:=by simp [hi]
 have hi2:i<h.at'.length:=by rw [H.len];exact hi
 have e2:h.at'[i]?=some h.at'[i]:=by simp [hi2]
 generalize h.P[i]=p at e1
 generalize h.at'[i]=n at e2
 have b:=H.inn i p n e1 e2
 have hn:n.toNat<p.length:=by omega
 have e3:p[n.toNat]?=some p[n.toNat]:=by simp [hn]
 refine ⟨p,n,p[n.toNat],e1,e2,e3,by simp [zID,e1,e2,e3],b,H.st p (zVF e1) _ (zWb _)⟩
theorem zNS {k:Nat} {h:Hl} (H:HOk k h) (C:Addr) {i:Nat} {s:St} (hs:zID h i=some s):yw C (hlO C h) [.int i]=some (stD s):=by
 refine qQ λa=>?_
 obtain ⟨p,e1,hs⟩:=zUs.mp hs
 obtain ⟨n,e2,e3⟩:=zUs.mp hs
 have b:=H.inn i p n e1 e2
 have i1:ixO (.lst (h.P.map ptD)) (.int i)=some (ptD p):=zF6 (by simp [e1])
 have i2:ixO (.lst (h.at'.map D.int)) (.int i)=some (.int n):=zF6 (by simp [e2])
 have i3:ixO (ptD p) (.int n)=some (stD s):=by
  have:=zF6 (xs:=p.map stD) (i:=n.toNat) (x:=stD s) (by simp [e3])
  rw [show ((n.toNat:Nat):Int)=n by omega] at this
  exact this
 have f1:=zIC C h
 have f2:=zQS C h
 exists 0,zNu,zDs,zHH,zDc,flR,f1,f2,i1,i2,i3
def qG (h:Hl) (a b:Int):List Str:=((h.R.find? λq=>decide (q.1=(a,b))).map (·.2)).getD []
theorem zQU {k k':Int×Int}:rkD k=rkD k'↔k=k':=by
 obtain ⟨a,b⟩:=k;obtain ⟨a',b'⟩:=k';simp [rkD]
theorem zKP (k:Int×Int):∀ R:List ((Int×Int)×List Str),zAv (rsD R) (rkD k)=((R.find? λq=>decide (q.1=k)).map (·.2)).map (List.map D.str)
 | []=>rfl
 |q::R=>by
  have ih:=zKP k R
  unfold zAv rsD at ih ⊢
  rw [zUx,zVU,zVU]
  by_cases e:q.1=k
  ·simp [e]
  ·have e1:¬ rkD q.1=rkD k:=λz=>e (zQU.mp z)
   simp only [e1,e,zV2]
   exact ih
theorem zNT (C:Addr) (h:Hl) (a b:Int):zG3 C (hlO C h) [.int a,.int b]=some (.tup ((qG h a b).map D.str)):=by
 refine qQ λad=>?_
 have f1:=zKM C h
 have g:=zKP (a,b) h.R
 have kt:zMW (.tup [.int a,.int b])=some (rkD (a,b)):=rfl
 unfold qG
 cases e:h.R.find? λq=>decide (q.1=(a,b)) with
 |none=>
  rw [e] at g
  exists 0,zNu,zPX,rGet,zHH,zDc,f1,kt,g,Option.getD_none
 |some q=>
  rw [e] at g
  exists 0,zNu,zPX,rGet,zHH,zDc,f1,kt,g,Option.getD_some
theorem zAA {C:Addr} {m:Str} {i:Nat} {fl:ROl} {F:Ob->List D->Option D} {ρ:Rho} {x:Ob} {ds:List D} {r:D} (h1:zDc ρ i=some x) (h2:zBj C m x=true) (h3:fl ρ=some ds) (h4:F x ds=some r):qz C m i fl F ρ=some r:=by
 unfold qz;rw [h1,zUw,zVE h2,h3,zUw,h4]
theorem zNU {C:Addr} {m:Str} {i:Nat} {fl:ROl} {F:Ob->List D->Option (List D)} {ρ:Rho} {x:Ob} {ds r:List D} (h1:zDc ρ i=some x) (h2:zBj C m x=true) (h3:fl ρ=some ds) (h4:F x ds=some r):zJy C m i fl F ρ=some r:=by
 unfold zJy;rw [h1,zUw,zVE h2,h3,zUw,h4]
def zDv (h:Hl) (i:Nat):List Mv:=match zID h i with
 |some (.act true o prs)=>prs.map λq=>⟨true,i,o,q.1⟩
 |some (.act false o prs)=>(prs.filter λq=>decide ([q.1]=(qG h o i).take 1)).map λq=>⟨false,o,i,q.1⟩
 |_=>[]
theorem st_i0 (t:Bool) (o:Int) (prs:List (Str×Int)):ixO (stD (.act t o prs)) (.int 0)=some (.str (if t then "tells" else "hears")):=by simp only [stD,ixO,at0]
theorem zSa (t:Bool) (o:Int) (prs:List (Str×Int)):ixO (stD (.act t o prs)) (.int 1)=some (.int o):=by simp only [stD,ixO,at1]
theorem zUa (t:Bool) (o:Int) (prs:List (Str×Int)):ixO (stD (.act t o prs)) (.int 2)=some (.tup (prs.map chD)):=by simp only [stD,ixO,at2]
theorem zFG (a b:Str):eqO (.str a) (.str b)=some (.bl (a == b)):=by unfold eqO;rw [zVE (by simp [dep])];unfold eqD;rfl
theorem s_rt:((Str.ofString "rests" : Str) == Str.ofString "tells")=false:=by decide +kernel
theorem s_rh:((Str.ofString "rests" : Str) == Str.ofString "hears")=false:=by decide +kernel
theorem zK3 (l:List Str):zo (l.map D.str) none (some 1)=(l.take 1).map D.str:=by
 cases l with
 |nil=>rfl
 |cons a l=>
  have:¬ ((1:Int)<0):=by decide
  simp [zo,HT.sIx]
theorem zUb (w:Str) (l:List Str):eqO (.tup [.str w]) (.tup ((l.take 1).map D.str))=some (.bl (decide ([w]=l.take 1))):=by
 have:=zGr [w] (l.take 1)
 unfold eqO
 rw [zVE (by simp [dep,depL])]
 unfold eqD
 rw [show [D.str w] = [w].map D.str from rfl,this]
theorem zNV (C:Addr) (i:Nat) (o:Int) (prs:List (Str×Int)) (x s3:Sl) (a:Addr):zP (gT 2 (gCs (gN 4) (gCs (gN 5) gNl))) (λ_=>some true) (zAh C) (prs.map chD) [x,.v (.int i),.v (stD (.act true o prs)),s3,.un,.un]=some ((prs.map λq=>(⟨true,i,o,q.1⟩:Mv)).map mvD):=by
 have i1:=zSa true o prs
 have:=yI (g:=gT 2 (gCs (gN 4) (gCs (gN 5) gNl))) (p:=λ_=>some true) (f:=zAh C) (emb:=chD) (ρ:=[x,.v (.int i),.v (stD (.act true o prs)),s3,.un,.un]) (λ_=>true) (λq=>mvD ⟨true,i,o,q.1⟩) prs λq _=>by
  refine ⟨[x,.v (.int i),.v (stD (.act true o prs)),s3,.v (.str q.1),.v (.int q.2)],rfl,rfl,λ_=>?_⟩
  exists 0,zAh,mvD,zBm,i1
 rw [this,zWK.mpr (by simp),zVt]
 rfl
theorem zNW (C:Addr) (i:Nat) (o:Int) (prs:List (Str×Int)) (l:List Str) (x:Sl):zP (gT 2 (gCs (gN 4) (gCs (gN 5) gNl))) (zAi C) (zAj C) (prs.map chD) [x,.v (.int i),.v (stD (.act false o prs)),.v (.tup ((l.take 1).map D.str)),.un,.un]=some (((prs.filter λq=>decide ([q.1]=l.take 1)).map λq=>(⟨false,o,i,q.1⟩:Mv)).map mvD):=by
 have i1:=zSa false o prs
 have:=yI (g:=gT 2 (gCs (gN 4) (gCs (gN 5) gNl))) (p:=zAi C) (f:=zAj C) (emb:=chD) (ρ:=[x,.v (.int i),.v (stD (.act false o prs)),.v (.tup ((l.take 1).map D.str)),.un,.un]) (λq=>decide ([q.1]=l.take 1)) (λq=>mvD ⟨false,o,i,q.1⟩) prs λq _=>by
  refine ⟨[x,.v (.int i),.v (stD (.act false o prs)),.v (.tup ((l.take 1).map D.str)),.v (.str q.1),.v (.int q.2)],rfl,?_,λ_=>?_⟩
  ·have e:=zUb q.1 l
   exists zAi,e,zP,gN,gT,gCs,gNl,zo,zc,neO,dep
  ·exists 0,zAj,mvD,zBm,i1
 rw [this,zVt]
 rfl
theorem zPZ {k:Nat} {h:Hl} (H:HOk k h) (C:Addr) {i:Nat} (hi:i<h.P.length):zBA C (hlO C h) [.int i]=some ((zDv h i).map mvD):=by
 refine qQ λa=>?_
 obtain ⟨p,n,s,e1,e2,e3,es,b,ok⟩:=zFF H hi
 have ms:=zNS H C es
 have st1:qI 2 (qz C "state_of" 0 (zB (gV 1) zO) (yw C)) [.b a (hlO C h),.v (.int i),.un,.un]=some (.nx [.b a (hlO C h),.v (.int i),.v (stD s),.un]):=
  (zBP (zAA rfl (zFE C h) rfl ms)).trans rfl
 show (zCM C [.b a (hlO C h),.v (.int i),.un,.un]).bind zKs=_
 unfold zCM zDv
 rw [zm st1,es]
 generalize hO:hlO C h=O at *
 cases s with
 |fin=>
  have i0:ixO (stD .fin) (.int 0)=some (.str "end"):=by simp only [stD,ixO,at0]
  exists zKs,zHv,i0,zFG,s_et,s_eh,zP,gN,gT,gCs,gNl,zo,zc,neO,dep
 |rests=>
  have i0:ixO (stD .rests) (.int 0)=some (.str "rests"):=by simp only [stD,ixO,at0]
  exists zKs,zHv,i0,zFG,s_rt,s_rh,zP,gN,gT,gCs,gNl,zo,zc,neO,dep
 |act t o prs=>
  have i0:=st_i0 t o prs
  have i1:=zSa t o prs
  have i2:=zUa t o prs
  have fw:prs.length<=1000000:=by have:=(ok:OkA _ _ _).few;omega
  cases t with
  |true=>
   have cp:=zNV C i o prs (.b a O) .un a
   simp only [zVp] at i0
   exists zKs,zHv,i0,i2,zFG,zVJ,cp,fw,zo,zc,neO,dep
  |false=>
   have cp:=zNW C i o prs (qG h o i) (.b a O)
   have i0':ixO (stD (.act false o prs)) (.int 0)=some (.str "hears"):=i0
   have mr:qz C "row" 0 (zB (b2 (gR 2) (zR 1) ixO) (zB (gV 1) zO)) (zG3 C) [.b a O,.v (.int i),.v (stD (.act false o prs)),.un]=some (.tup ((qG h o i).map D.str)):=by
    subst hO
    refine zAA (ds:=[.int o,.int i]) rfl (zQT C h) ?_ (zNT C h o i)
    exists 0,i1
   have tk1:=zK3 (qG h o i)
   generalize qz C "row" 0 (zB (b2 (gR 2) (zR 1) ixO) (zB (gV 1) zO)) (zG3 C)=f1 at mr ⊢
   exists zKs,zHv,i0',i2,zFG,s_ht,zVJ,mr,tk1,cp,fw,zc,neO,dep
def mvs (h:Hl):List Mv:=(List.range h.P.length).flatMap (zDv h)
theorem zNX {k:Nat} {h:Hl} (H:HOk k h) (i:Nat):(zDv h i).length<=18:=by
 by_cases hi:i<h.P.length
 ·obtain ⟨p,n,s,e1,e2,e3,es,b,ok⟩:=zFF H hi
  unfold zDv
  rw [es]
  cases s with
  |fin=>simp
  |rests=>simp
  |act t o prs=>
   have:=(ok:OkA _ _ _).few
   cases t with
   |true=>simpa using this
   |false=>simp only [zU4];exact zVb (zXB ..) this
 ·have:h.P[i]?=none:=by simp;omega
  simp [zDv,zID,this]
theorem zGF {k:Nat} {h:Hl} (H:HOk k h) (C:Addr) (a:Addr):∀ (is:List Nat) (acc:List Mv) (s2:Sl),(∀ i∈is,i<h.P.length)->acc.length+18*is.length<=1000->∃ s2',zc (gN 2) (zDF C) (is.map λ(i:Nat)=>D.int (0+(i:Int))) [.b a (hlO C h),.l (acc.map mvD),s2]=some (.nx [.b a (hlO C h),.l ((acc++is.flatMap (zDv h)).map mvD),s2'])
 | [],acc,s2,_,_=>⟨s2,by simp [zc]⟩
 |i::is,acc,s2,hi,hl=>by
  have hi0:=hi i zU0
  have l1:=zNX H i
  rw [zUv] at hl
  obtain ⟨s2',ih⟩:=zGF H C a is (acc++zDv h i) (.v (.int (0+(i:Int)))) (λj hj=>hi j (zUu _ hj)) (by rw [zU9];omega)
  refine ⟨s2',?_⟩
  have mm:=zPZ H C hi0
  have st:zDF C [.b a (hlO C h),.l (acc.map mvD),.v (.int (0+(i:Int)))]=some (.nx [.b a (hlO C h),.l ((acc++zDv h i).map mvD),.v (.int (0+(i:Int)))]):=by
   have e:=zNU (C:=C) (m:="moves_of") (i:=0) (fl:=zB (gV 2) zO) (F:=zBA C) (ρ:=[.b a (hlO C h),.l (acc.map mvD),.v (.int (0+(i:Int)))]) rfl (zJE C h) rfl (by rw [Int.zero_add];exact mm)
   unfold zDF zTr
   have q:acc.length+(zDv h i).length<=1000000:=by omega
   simp only [gL,zVf,zVS,zUw,e,zU4,zVE q,zXR,zWP,zVK]
  rw [zUx,zB1 (ρ1:=[.b a (hlO C h),.l (acc.map mvD),.v (.int (0+(i:Int)))]) rfl st,ih,zVX,zVr]
theorem zSb {k:Nat} {h:Hl} (H:HOk k h) (C:Addr):zAs C (hlO C h) []=some (.tup ((mvs h).map mvD)):=by
 refine qQ λa=>?_
 have m4:=H.m4
 obtain ⟨s2',e⟩:=zGF H C a (List.range h.P.length) [] .un (λi hi=>zWD.mp hi) (by simp;omega)
 rw [zV7,zWA] at e
 have f1:=zIC C h
 show (zG4 C [.b a (hlO C h),.un,.un]).bind _=_
 unfold zG4
 rw [zm (ρ':=[.b a (hlO C h),.l [],.un]) rfl,zm ((zAS (zF7 (n:=h.P.length) ?_ (by omega))).trans e)]
 ·rfl
 ·exists 0,zHH,zDc,flR,f1
theorem zPa (C:Addr) (h:Hl):zIA C (hlO C h) []=some (.tup (h.past.map mvD)):=by
 refine qQ λa=>?_
 have f1:=zKN C h
 exists 0,zNu,zNP,zHH,zDc,flR,f1
theorem zIE:∀ a b:Bool,(zBm a == zBm b)=decide (a=b):=by
 have a:((Str.ofString "tell" : Str) == Str.ofString "hear")=false:=by decide +kernel
 have b:((Str.ofString "hear" : Str) == Str.ofString "tell")=false:=by decide +kernel
 intro x y
 cases x<;>cases y<;>simp [zBm,a,b]
theorem zUc (u v:Mv):eqD (mvD u) (mvD v)=decide (u=v):=by
 obtain ⟨t,a,b,w⟩:=u
 obtain ⟨t',a',b',w'⟩:=v
 simp only [mvD,eqD,eqL,zIE,zDn,Bool.and_true,Mv.mk.injEq]
 by_cases h1:t=t'<;>by_cases h2:a=a'<;>by_cases h3:b=b'<;>by_cases h4:w=w'<;>simp [h1,h2,h3,h4]
theorem zUd (v:Mv):dep (mvD v)<=20:=by simp only [mvD,dep,depL];omega
theorem zUe (v:Mv) (l:List Mv):inO (mvD v) (.tup (l.map mvD))=some (.bl (decide (v∈l))):=by
 unfold inO
 rw [zVE (zUd v)]
 simp only [List.any_map,Function.comp_def,zUc]
 congr 2
 by_cases h:v∈l
 ·rw [zVz h,zXG];exact ⟨v,h,by simp⟩
 ·rw [zVh h,List.any_eq_false];intro u hu z;simp at z;exact h (z ▸ hu)
theorem zIF (n:Int):zAD [.int n]=some (.bl true):=by
 exists 0,zAD,zDq,zTu,zTt,tyD,ixO
 rfl
theorem mv_i0 (v:Mv):ixO (mvD v) (.int 0)=some (.str (zBm v.t)):=by simp only [mvD,ixO,at0]
theorem zUf (v:Mv):ixO (mvD v) (.int 1)=some (.int v.a):=by simp only [mvD,ixO,at1]
theorem zUg (v:Mv):ixO (mvD v) (.int 2)=some (.int v.b):=by simp only [mvD,ixO,at2]
theorem mv_i3 (v:Mv):ixO (mvD v) (.int 3)=some (.str v.w):=by simp only [mvD,ixO,at3]
theorem m_can {k:Nat} {h:Hl} (H:HOk k h) (C:Addr) (v:Mv):yx C (hlO C h) [mvD v]=some (.bl (decide (v∈mvs h))):=by
 refine qQ λa=>?_
 have mm:qz C "moves" 0 zO (zAs C) [.b a (hlO C h),.v (mvD v)]=some (.tup ((mvs h).map mvD)):=zAA rfl (zG7 C h) rfl (zSb H C)
 have im:=zUe v (mvs h)
 have i1:=zUf v
 have i2:=zUg v
 have w1:=zIF v.a
 have w2:=zIF v.b
 show (q9 C [.b a (hlO C h),.v (mvD v)]).bind _=_
 unfold q9
 generalize qz C "moves" 0 zO (zAs C)=f1 at mm ⊢
 generalize hO:hlO C h=O at mm ⊢
 cases e:decide (v∈mvs h) with
 |true=>
  rw [e] at im
  exists 0,mm,im,i1,i2,w1,w2
 |false=>
  rw [e] at im
  exists 0,mm,im,i1,i2,w1,w2
abbrev fl4 (a b c d:Fl):List (Str×Fl):=[(Str.ofString "parts",a),(Str.ofString "at",b),(Str.ofString "rows",c),(Str.ofString "past",d)]
def zBe (h:Hl) (i:Nat) (w:Str):Option Int:=match zID h i with
 |some (.act _ _ prs)=>(prs.find? λq=>decide (q.1=w)).map (·.2)
 |_=>none
theorem zSc {n i:Nat} (h:i<n):ixN n (i:Int)=some i:=by unfold ixN;rw [zVE (by omega),zVE (by omega)];simp
theorem zUh (C:Addr) (h:Hl) (xs:List Int):qW "at" (.f (.l (xs.map D.int))) (fl4 (.v (.lst (h.P.map ptD))) (.f (.l (h.at'.map D.int))) (.f (.tl (rsD h.R))) (.f (.l (h.past.map mvD))))=(fl4 (.v (.lst (h.P.map ptD))) (.f (.l (xs.map D.int))) (.f (.tl (rsD h.R))) (.f (.l (h.past.map mvD)))):=by
 simp only [fl4,qW,zJD,zVJ,zVp,zVu,zV8]
theorem zPb (C:Addr) (h:Hl) (y:Fd):qW "rows" (.f y) (fl4 (.v (.lst (h.P.map ptD))) (.f (.l (h.at'.map D.int))) (.f (.tl (rsD h.R))) (.f (.l (h.past.map mvD))))=(fl4 (.v (.lst (h.P.map ptD))) (.f (.l (h.at'.map D.int))) (.f y) (.f (.l (h.past.map mvD)))):=by
 simp only [fl4,qW,zG5,zK1,zVJ,zVp,zVu,zV8]
theorem zPc (C:Addr) (h:Hl) (y:Fd):qW "past" (.f y) (fl4 (.v (.lst (h.P.map ptD))) (.f (.l (h.at'.map D.int))) (.f (.tl (rsD h.R))) (.f (.l (h.past.map mvD))))=(fl4 (.v (.lst (h.P.map ptD))) (.f (.l (h.at'.map D.int))) (.f (.tl (rsD h.R))) (.f y)):=by
 simp only [fl4,qW,zG6,zK2,zIB,zVJ,zVp,zVu,zV8]
theorem zNY {C:Addr} {h:Hl} {f:Str} {y:Fd} {ρ:Rho} {i:Nat} {c:Option Addr} (e:ρ[i]?=some (.o c (hlO C h))) (hf:zC6 C f (hlO C h)=some (.f y)):zHr C i f ρ=some (c,(fl4 (.v (.lst (h.P.map ptD))) (.f (.l (h.at'.map D.int))) (.f (.tl (rsD h.R))) (.f (.l (h.past.map mvD)))),y):=by
 unfold zHr
 rw [e]
 simp only [zC6,hlO,zVp] at hf ⊢
 rw [hf]
theorem zUi {k:Nat} {h:Hl} (H:HOk k h) (C:Addr) {i:Nat} {w:Str} {n:Int} (hn:zBe h i w=some n):zB9 C (hlO C h) [.int i,.str w]=some (hlO C { h with at':=h.at'.set i n }):=by
 refine qQ λa=>?_
 have hi:i<h.P.length:=by
  unfold zBe zID at hn
  by_cases q:i<h.P.length
  ·exact q
  ·have:h.P[i]?=none:=by simp;omega
   rw [this] at hn;simp at hn
 obtain ⟨p,n',s,e1,e2,e3,es,b,ok⟩:=zFF H hi
 unfold zBe at hn
 rw [es] at hn
 cases s with
 |fin=>simp at hn
 |rests=>simp at hn
 |act t o prs=>
  have ok:OkA _ _ _:=ok
  simp only at hn
  have ms:=zNS H C es
  have sm:qz C "state_of" 0 (zB (gV 1) zO) (yw C) [.o (some a) (hlO C h),.v (.int i),.v (.str w)]=some (stD (.act t o prs)):=zAA rfl (zFE C h) rfl ms
  have dc:=zNQ ok.rs (by have:=ok.few;omega)
  have gc:=zNR w prs
  rw [hn] at gc
  have of:=zNY (C:=C) (h:=h) (f:="at") (ρ:=[.o (some a) (hlO C h),.v (.int i),.v (.str w)]) (i:=0) (c:=some a) rfl (zQS C h)
  have ix:=zSc (n:=(h.at'.map D.int).length) (i:=i) (by rw [zU4,H.len];exact hi)
  have i2:=zUa t o prs
  have d1:dIx (b2 (qz C "state_of" 0 (zB (gV 1) zO) (yw C)) (zR 2) ixO) (gV 2) [.o (some a) (hlO C h),.v (.int i),.v (.str w)]=some (.int n):=by
   unfold dIx b2
   rw [sm,zUw,zUw,i2,zUw,dc,zUw]
   exact gc
  have st:zFC C [.o (some a) (hlO C h),.v (.int i),.v (.str w)]=some (.nx [.o (some a) (hlO C { h with at':=h.at'.set i n }),.v (.int i),.v (.str w)]):=by
   unfold zFC zRf
   rw [d1,zUw,of,zUw]
   simp only [zOE,zVf,zVS,zUw,ix,zVG,zEu,zWP]
   have sa:=zUh C h (h.at'.set i n)
   rw [List.map_set] at sa
   rw [sa]
   simp only [hlO,List.map_set]
  show (zFC C [.o (some a) (hlO C h),.v (.int i),.v (.str w)]).bind _=_
  rw [st]
  simp only [zUw,zA3,zVS,zVp]
def zIG (k:Int×Int) (f:List Str->List Str):List ((Int×Int)×List Str)->List ((Int×Int)×List Str)
 | []=>[]
 |q::r=>if q.1=k then (q.1,f q.2)::r else q::zIG k f r
def zLL (k:Int×Int) (w:Str) (R:List ((Int×Int)×List Str)):List ((Int×Int)×List Str):=match R.find? λq=>decide (q.1=k) with
 |some _=>zIG k (· ++ [w]) R
 |none=>R ++ [(k,[w])]
theorem zNZ {k:Int×Int} {f:List Str->List Str} {xs:List Str}:∀ {R:List ((Int×Int)×List Str)},((R.find? λq=>decide (q.1=k)).map (·.2))=some xs->zCk (rkD k) ((f xs).map D.str) (rsD R)=rsD (zIG k f R)
 | [],h=>by simp at h
 |q::R,h=>by
  rw [zVU] at h
  by_cases e:q.1=k
  ·simp only [e,zW6,zVG,zWk] at h
   simp only [rsD,zUx,zCk,zIG,e,zVp,h]
  ·simp only [e,zV2] at h
   have e1:¬ rkD q.1=rkD k:=λz=>e (zQU.mp z)
   have ih:=zNZ (f:=f) (R:=R) h
   simp only [rsD] at ih
   simp only [rsD,zUx,zCk,zIG,e,e1,zV8,ih]
theorem zG8 (k:Int×Int) (f:List Str->List Str):∀ R:List ((Int×Int)×List Str),(zIG k f R).length=R.length
 | []=>rfl
 |q::R=>by unfold zIG;split<;>simp [zG8 k f R]
theorem zG9 {k:Int×Int} {f:List Str->List Str}:∀ {R:List ((Int×Int)×List Str)} {q:(Int×Int)×List Str},q∈zIG k f R->q∈R\/∃ q'∈R,q=(q'.1,f q'.2)
 | [],q,h=>by simp [zIG] at h
 |r::R,q,h=>by
  unfold zIG at h
  split at h
  ·rcases zU1.mp h with rfl|h
   ·exact .inr ⟨r,zU0,rfl⟩
   ·exact .inl (zUu _ h)
  ·rcases zU1.mp h with rfl|h
   ·exact .inl zU0
   ·rcases zG9 h with h|⟨q',h',e⟩
    ·exact .inl (zUu _ h)
    ·exact .inr ⟨q',zUu _ h',e⟩
theorem zFH {k k':Int×Int} {f:List Str->List Str}:∀ R:List ((Int×Int)×List Str),((zIG k f R).find? λq=>decide (q.1=k')).map (·.2)=((R.find? λq=>decide (q.1=k')).map (·.2)).map λxs=>if k'=k then f xs else xs
 | []=>rfl
 |r::R=>by
  have ih:=zFH (k:=k) (k':=k') (f:=f) R
  unfold zIG
  by_cases e:r.1=k
  ·rw [zVE e,zVU,zVU]
   by_cases e':r.1=k'
   ·simp [e',e'.symm.trans e]
   ·have:¬ k'=k:=λz=>e' (e.trans z.symm)
    simp [e',this]
    rfl
  ·rw [zVe e,zVU,zVU]
   by_cases e':r.1=k'
   ·have:¬ k'=k:=λz=>e (e'.trans z)
    simp [e',this]
   ·simp only [e',zV2];exact ih
theorem zUj {k:Int×Int} {w:Str} {R:List ((Int×Int)×List Str)}:(match zAv (rsD R) (rkD k) with
  |some xs=>zCk (rkD k) (xs ++ [.str w]) (rsD R)
  |none=>rsD R ++ [(rkD k,[.str w])])=rsD (zLL k w R):=by
 rw [zKP]
 unfold zLL
 cases e:R.find? λq=>decide (q.1=k) with
 |none=>simp [rsD]
 |some q=>
  have:=zNZ (k:=k) (f:=(· ++ [w])) (xs:=q.2) (R:=R) (by rw [e];rfl)
  simpa using this
theorem zNa (h:Hl) (k:Int×Int) (w:Str) (a b:Int):qG { h with R:=zLL k w h.R } a b=if (a,b)=k then qG h a b ++ [w] else qG h a b:=by
 unfold qG zLL
 cases e:h.R.find? λq=>decide (q.1=k) with
 |none=>
  simp only [List.find?_append]
  by_cases c:(a,b)=k
  ·rw [c,e];simp
  ·have:¬ k=(a,b):=λz=>c z.symm
   simp [c,this]
 |some q=>
  simp only
  rw [zFH]
  by_cases c:(a,b)=k
  ·rw [c,e];simp
  ·simp [c]
   rfl
theorem zNb (h:Hl) (k:Int×Int) (a b:Int):qG { h with R:=zIG k List.tail h.R } a b=if (a,b)=k then (qG h a b).tail else qG h a b:=by
 unfold qG
 simp only
 rw [zFH]
 by_cases c:(a,b)=k
 ·simp only [c,zVp]
  cases h.R.find? λq=>decide (q.1=k) with
  |none=>rfl
  |some q=>rfl
 ·simp only [c,zV8]
  cases h.R.find? λq=>decide (q.1=(a,b)) with
  |none=>rfl
  |some q=>rfl
theorem app_len (k:Int×Int) (w:Str) (R:List ((Int×Int)×List Str)):(zLL k w R).length<=R.length+1:=by
 unfold zLL;split
 ·rw [zG8];omega
 ·simp
theorem zSd {k:Int×Int} {w:Str} {R:List ((Int×Int)×List Str)} {q:(Int×Int)×List Str} (h:q∈zLL k w R):q∈R\/(∃ q'∈R,q.2.length=q'.2.length+1)\/q.2.length=1:=by
 unfold zLL at h;split at h
 ·rcases zG9 h with h|⟨q',h',e⟩
  ·exact .inl h
  ·exact .inr (.inl ⟨q',h',by rw [e];simp⟩)
 ·rcases zU2.mp h with h|h
  ·exact .inl h
  ·simp at h;subst h;exact .inr (.inr rfl)
def Mv.who (v:Mv):Nat:=(if v.t then v.a else v.b).toNat
def zAa (v:Mv) (R:List ((Int×Int)×List Str)):List ((Int×Int)×List Str):=if v.t then zLL (v.a,v.b) v.w R else zIG (v.a,v.b) List.tail R
def doM (h:Hl) (v:Mv) (n:Int):Hl:=⟨h.P,h.at'.set v.who n,zAa v h.R,h.past ++ [v]⟩
theorem zSe {k:Nat} {h:Hl} (H:HOk k h) {v:Mv} (hv:v∈mvs h):∃ o prs n,v.who<h.P.length/\zID h v.who=some (.act v.t o prs)/\(v.w,n)∈prs/\zBe h v.who v.w=some n /\
  (if v.t=true then v.a=(v.who:Int)/\v.b=o else v.b=(v.who:Int)/\v.a=o/\[v.w]=(qG h v.a v.b).take 1):=by
 obtain ⟨i,hi,hm⟩:=zV5.mp hv
 have hi:=zWD.mp hi
 obtain ⟨p,n',s,e1,e2,e3,es,b,ok⟩:=zFF H hi
 have nx:∀ (t:Bool) (o:Int) (prs:List (Str×Int)) (q:Str×Int),s = .act t o prs->q∈prs->zBe h i q.1=some q.2:=λt o prs q hs hq=>by
  subst hs
  have ok:OkA _ _ _:=ok
  unfold zBe
  rw [es]
  simp only
  have nd:(prs.map (·.1)).Pairwise (·≠·):=ok.rs.imp λh=>h.ne
  have:∀ (l:List (Str×Int)),(l.map (·.1)).Pairwise (·≠·)->q∈l->(l.find? λx=>decide (x.1=q.1)).map (·.2)=some q.2:=by
   intro l
   induction l with
   |nil=>intro _ h;simp at h
   |cons x l ih=>
    intro hp hq
    rw [zUx] at hp
    obtain ⟨h1,h2⟩:=zVI.mp hp
    rw [zVU]
    rcases zU1.mp hq with rfl|hq
    ·simp
    ·have:x.1≠q.1:=h1 q.1 (List.mem_map_of_mem hq)
     simp only [this,zV2]
     exact ih h2 hq
  exact this prs nd hq
 unfold zDv at hm
 rw [es] at hm
 cases s with
 |fin=>simp at hm
 |rests=>simp at hm
 |act t o prs=>
  cases t with
  |true=>
   simp only at hm
   obtain ⟨q,hq,rfl⟩:=zVT.mp hm
   refine ⟨o,prs,q.2,?_⟩
   simp only [Mv.who,zVp,zWj]
   exact ⟨hi,es,hq,nx true o prs q rfl hq,by simp⟩
  |false=>
   simp only at hm
   obtain ⟨q,hq,rfl⟩:=zVT.mp hm
   obtain ⟨hq,hr⟩:=zV3.mp hq
   refine ⟨o,prs,q.2,?_⟩
   simp only [Mv.who,zVu,zV8,zWj]
   exact ⟨hi,es,hq,nx false o prs q rfl hq,by simpa using hr⟩
theorem zEN {C:Addr} {m:Str} {i:Nat} {fl:ROl} {F:Ob->List D->Option Ob} {ρ:Rho} {c:Option Addr} {x x':Ob} {ds:List D} (h1:ρ[i]?=some (.o c x)) (h2:zBj C m x=true) (h3:fl ρ=some ds) (h4:F x ds=some x'):zFX C m i fl F ρ=some (.nx (ρ.set i (.o c x'))):=by
 unfold zFX;rw [h1];simp only [h2,zVp,h3,zUw,h4,zVG]
theorem HOk.rows {k k':Nat} {h:Hl} (H:HOk k h) {R:List ((Int×Int)×List Str)} (hk:k<=k') (h1:R.length<=k') (h2:∀ q∈R,q.2.length<=k'):HOk k' { h with R:=R }:=
 ⟨H.len,H.m4,H.inn,H.st,h1,h2,zVb H.pl hk⟩
theorem zIH {k:Nat} {h:Hl} (H:HOk k h) (v:Mv):(zAa v h.R).length<=k+1/\∀ q∈zAa v h.R,q.2.length<=k+1:=by
 have h1:=H.rn
 have h2:=H.rl
 unfold zAa
 split
 ·refine ⟨zVb (app_len ..) (by omega),λq hq=>?_⟩
  rcases zSd hq with hq|⟨q',hq',e⟩|e
  ·have:=h2 q hq;omega
  ·have:=h2 q' hq';omega
  ·omega
 ·refine ⟨by rw [zG8];omega,λq hq=>?_⟩
  rcases zG9 hq with hq|⟨q',hq',e⟩
  ·have:=h2 q hq;omega
  ·have:=h2 q' hq'
   rw [e]
   simp only [List.length_tail];omega
theorem zQV {k:Nat} {h:Hl} (H:HOk k h) {v:Mv} {o n:Int} {prs:List (Str×Int)} (hs:zID h v.who=some (.act v.t o prs)) (hn:(v.w,n)∈prs):HOk (k+1) (doM h v n):=by
 obtain ⟨r1,r2⟩:=zIH H v
 have hl:=H.pl
 refine ⟨by simp [doM,H.len],H.m4,λi p n' e1 e2=>?_,H.st,r1,r2,by simp [doM];omega⟩
 simp only [doM] at e1 e2
 by_cases c:v.who=i
 ·subst c
  have hlt:v.who<h.at'.length:=by
   have:=(zU7.mp e2).1
   simpa using this
  rw [zVQ hlt] at e2
  cases e2
  obtain ⟨p',n0,s,a1,a2,a3,a4,a5,a6⟩:=zFF H (i:=v.who) (by rw [<- H.len];exact hlt)
  rw [e1] at a1;cases a1
  rw [hs] at a4;cases a4
  exact (a6:OkA _ _ _).nx _ hn
 ·rw [zVH c] at e2
  exact H.inn i p n' e1 e2
theorem zUk {k:Nat} {h:Hl} (H:HOk k h) (hk:k<=1000) (C:Addr) {v:Mv} (hv:v∈mvs h):∃ n o prs,v.who<h.P.length/\zID h v.who=some (.act v.t o prs)/\(v.w,n)∈prs/\zBe h v.who v.w=some n/\zNv C (hlO C h) [mvD v]=some (hlO C (doM h v n)):=by
 obtain ⟨o,prs,n,w1,w2,w3,w4,w5⟩:=zSe H hv
 refine ⟨n,o,prs,w1,w2,w3,w4,qQ λa=>?_⟩
 have r1:=H.rn
 have r2:=H.rl
 have r3:=H.pl
 have mc:=m_can H C v
 rw [zVz hv] at mc
 have i0:=mv_i0 v
 have i1:=zUf v
 have i2:=zUg v
 have i3:=mv_i3 v
 have b1':qz C "can_be_done" 0 (zB (gV 1) zO) (yx C) [.o (some a) (hlO C h),.v (mvD v),.un]=some (.bl true):=zAA rfl (zUY C h) rfl mc
 have s1:(sIf (zRH (zLI (qz C "can_be_done" 0 (zB (gV 1) zO) (yx C)))) (λ_=>none) (λρ=>some (Out.nx ρ))) [.o (some a) (hlO C h),.v (mvD v),.un]=some (.nx [.o (some a) (hlO C h),.v (mvD v),.un]):=by
  unfold sIf zRH zLI
  rw [b1']
  rfl
 have s2:qI 2 (λρ=>((zB (b2 (gR 1) (zR 1) ixO) (zB (b2 (gR 1) (zR 2) ixO) zO)) ρ).map D.tup) [.o (some a) (hlO C h),.v (mvD v),.un]=some (.nx [.o (some a) (hlO C h),.v (mvD v),.v (.tup [.int v.a,.int v.b])]):=by
  refine (zBP (d:=.tup [.int v.a,.int v.b]) ?_).trans rfl
  exists 0,i1,i2
 have kt:zMW (.tup [.int v.a,.int v.b])=some (rkD (v.a,v.b)):=rfl
 obtain ⟨y1,y2⟩:=zIH H v
 have H1:HOk (k+1) { h with R:=zAa v h.R }:=H.rows (by omega) y1 y2
 have of:=zNY (C:=C) (h:=h) (f:="rows") (ρ:=[.o (some a) (hlO C h),.v (mvD v),.v (.tup [.int v.a,.int v.b])]) (i:=0) (c:=some a) rfl (zKM C h)
 have gr:=zKP (v.a,v.b) h.R
 have pf:∀ y ρ',zEu C 0 "rows" (some a) (fl4 (.v (.lst (h.P.map ptD))) (.f (.l (h.at'.map D.int))) (.f (.tl (rsD h.R))) (.f (.l (h.past.map mvD)))) (.tl (rsD y)) [.o (some a) (hlO C h),.v (mvD v),ρ'] = [.o (some a) (hlO C { h with R:=y }),.v (mvD v),ρ']:=λy ρ'=>by
  unfold zEu
  rw [zPb C h]
  rfl
 have sF:∀ (h1:Hl),HOk (k+1) h1->zOc C 0 "past" (gV 1) [.o (some a) (hlO C h1),.v (mvD v),.v (.tup [.int v.a,.int v.b])]=some (.nx [.o (some a) (hlO C { h1 with past:=h1.past ++ [v] }),.v (mvD v),.v (.tup [.int v.a,.int v.b])]):=λh1 H1=>by
  have of:=zNY (C:=C) (h:=h1) (f:="past") (ρ:=[.o (some a) (hlO C h1),.v (mvD v),.v (.tup [.int v.a,.int v.b])]) (i:=0) (c:=some a) rfl (zKN C h1)
  have l1:(h1.past.map mvD).length<1000000:=by have:=H1.pl;rw [zU4];omega
  unfold zOc
  rw [of,zUw]
  simp only [zVE l1,zOE,zVf,zVS,zVG,zEu,zWP]
  rw [zPc C h1]
  simp [hlO,fl4]
 have go:∀ (i:Nat),i=v.who->zB9 C (hlO C { h with R:=zAa v h.R }) [.int i,.str v.w]=some (hlO C ⟨h.P,h.at'.set v.who n,zAa v h.R,h.past⟩):=λi e=>by
  subst e
  exact zUi H1 C w4
 have fin:(zUX C [.o (some a) (hlO C h),.v (mvD v),.un])=some (.nx [.o (some a) (hlO C (doM h v n)),.v (mvD v),.v (.tup [.int v.a,.int v.b])]):=by
  unfold zUX
  rw [zm s1,zm s2]
  have s3:(sIf (bB (b2 (b2 (gR 1) (zR 0) ixO) (λ_=>some (D.str "tell")) eqO)) (sq (zMY C 0 "rows" (gV 2) (b2 (gR 1) (zR 3) ixO)) (zFX C "go_on" 0 (zB (b2 (gR 1) (zR 1) ixO) (zB (b2 (gR 1) (zR 3) ixO) zO)) (zB9 C))) (sq (zMX C 0 "rows" (gV 2)) (zFX C "go_on" 0 (zB (b2 (gR 1) (zR 2) ixO) (zB (b2 (gR 1) (zR 3) ixO) zO)) (zB9 C)))) [.o (some a) (hlO C h),.v (mvD v),.v (.tup [.int v.a,.int v.b])]=some (.nx [.o (some a) (hlO C ⟨h.P,h.at'.set v.who n,zAa v h.R,h.past⟩),.v (mvD v),.v (.tup [.int v.a,.int v.b])]):=by
   have ek:eqO (.str (zBm v.t)) (.str "tell")=some (.bl v.t):=by
    rw [zFG,show Str.ofString "tell" = zBm true from rfl,zIE]
    cases v.t<;>rfl
   have tst:(bB (b2 (b2 (gR 1) (zR 0) ixO) (λ_=>some (D.str "tell")) eqO)) [.o (some a) (hlO C h),.v (mvD v),.v (.tup [.int v.a,.int v.b])]=some v.t:=by
    exists i0,ek,eqL,zP,gN,gT,gCs,gNl,zo,zc,neO,dep
   unfold sIf
   rw [tst,zUw]
   cases ht:v.t with
   |true=>
    rw [zVE rfl]
    rw [ht] at w5
    simp only [zVp] at w5
    have ra:=zUj (k:=(v.a,v.b)) (w:=v.w) (R:=h.R)
    have rb:zAa v h.R=zLL (v.a,v.b) v.w h.R:=by simp [zAa,ht]
    have t1:zMY C 0 "rows" (gV 2) (b2 (gR 1) (zR 3) ixO) [.o (some a) (hlO C h),.v (mvD v),.v (.tup [.int v.a,.int v.b])]=some (.nx [.o (some a) (hlO C { h with R:=zAa v h.R }),.v (mvD v),.v (.tup [.int v.a,.int v.b])]):=by
     rw [rb]
     unfold zMY
     rw [of,zUw]
     have e3:∀ s0,(b2 (gR 1) (zR 3) ixO) [s0,.v (mvD v),.v (.tup [.int v.a,.int v.b])]=some (.str v.w):=λs0=>by
      exists 0,i3
     simp only [zOE,zVf,zVS,zUw,kt]
     cases eg:zAv (rsD h.R) (rkD (v.a,v.b)) with
     |some xs=>
      rw [eg] at ra gr
      simp only at ra
      have lx:xs.length<1000000:=by
       cases ef:h.R.find? λq=>decide (q.1=(v.a,v.b)) with
       |none=>rw [ef] at gr;simp at gr
       |some q=>
        rw [ef] at gr
        simp only [zVG,zWk] at gr
        have:=r2 q (List.mem_of_find?_eq_some ef)
        rw [gr,zU4];omega
      simp only [zVE lx,e3,zVG,ra,pf]
     |none=>
      rw [eg] at ra
      simp only at ra
      have lx:(rsD h.R).length<1000000:=by unfold rsD;rw [zU4];omega
      simp only [zVE lx]
      have e4:=e3 (.o (some a) (.ins C (qW "rows" (.f (.tl (rsD h.R ++ [(rkD (v.a,v.b),[])]))) (fl4 (.v (.lst (h.P.map ptD))) (.f (.l (h.at'.map D.int))) (.f (.tl (rsD h.R))) (.f (.l (h.past.map mvD)))))))
      rw [show zEu C 0 "rows" (some a) (fl4 (.v (.lst (h.P.map ptD))) (.f (.l (h.at'.map D.int))) (.f (.tl (rsD h.R))) (.f (.l (h.past.map mvD)))) (.tl (rsD h.R ++ [(rkD (v.a,v.b),[])])) [.o (some a) (hlO C h),.v (mvD v),.v (.tup [.int v.a,.int v.b])] = [.o (some a) (.ins C (qW "rows" (.f (.tl (rsD h.R ++ [(rkD (v.a,v.b),[])]))) (fl4 (.v (.lst (h.P.map ptD))) (.f (.l (h.at'.map D.int))) (.f (.tl (rsD h.R))) (.f (.l (h.past.map mvD)))))),.v (mvD v),.v (.tup [.int v.a,.int v.b])] from rfl,e4]
      simp only [zVG,ra,pf]
    rw [zm t1]
    refine (zEN (ds:=[.int (v.who:Int),.str v.w]) rfl (zKO C _) ?_ (go v.who rfl)).trans rfl
    rw [<- w5.1]
    exists 0,i1,i3
   |false=>
    rw [zVe (by simp)]
    rw [ht] at w5
    simp only [zVu,zV8] at w5
    obtain ⟨z1,z2,z3⟩:=w5
    have rb:zAa v h.R=zIG (v.a,v.b) List.tail h.R:=by simp [zAa,ht]
    have t1:zMX C 0 "rows" (gV 2) [.o (some a) (hlO C h),.v (mvD v),.v (.tup [.int v.a,.int v.b])]=some (.nx [.o (some a) (hlO C { h with R:=zAa v h.R }),.v (mvD v),.v (.tup [.int v.a,.int v.b])]):=by
     rw [rb]
     unfold zMX
     rw [of,zUw]
     simp only [zOE,zVf,zVS,zUw,kt]
     unfold qG at z3
     cases ef:h.R.find? λq=>decide (q.1=(v.a,v.b)) with
     |none=>rw [ef] at z3;simp at z3
     |some q=>
      rw [ef] at z3 gr
      simp only [zVG,Option.getD_some] at z3 gr
      cases hq:q.2 with
      |nil=>rw [hq] at z3;simp at z3
      |cons x xs=>
       rw [hq,zUx] at gr
       rw [gr]
       have rs:=zNZ (k:=(v.a,v.b)) (f:=List.tail) (xs:=x::xs) (R:=h.R) (by rw [ef];simp [hq])
       simp only [List.tail_cons] at rs
       simp only [rs,pf]
    rw [zm t1]
    refine (zEN (ds:=[.int (v.who:Int),.str v.w]) rfl (zKO C _) ?_ (go v.who rfl)).trans rfl
    rw [<- z1]
    exists 0,i2,i3
  rw [zm s3]
  refine (sF ⟨h.P,h.at'.set v.who n,zAa v h.R,h.past⟩ ?_).trans rfl
  have:=zQV H w2 w3
  exact ⟨this.len,this.m4,this.inn,this.st,this.rn,this.rl,by show h.past.length<=k+1;omega⟩
 show (zUX C [.o (some a) (hlO C h),.v (mvD v),.un]).bind _=_
 rw [fin]
 simp only [zUw,zA3,zVS,zVp]
theorem zSf {m:Int} {ps:List Pl} {d:Int} (h:PS m ps d) {Ks:List (List Int)} (k:IsPart ps d Ks) {K:List Int} (hK:K∈Ks):OkSt Ks.length (zG1 ps d Ks K):=by
 have few:=zQR h.few (k.st K hK) (k.al K hK)
 have wl:=zI7 (zD9 ps d K)
 have mp:(zBl ps d Ks K).map (·.1)=qy ps d K:=by unfold zBl;rw [zVt];exact List.map_id _
 have ok:∀ o,OkA Ks.length o (zBl ps d Ks K):=λo=>by
  refine ⟨by unfold zBl qy;rw [zU4,zA6];omega,by rw [mp];exact qk (zH4 _),λq hq=>?_,λq hq=>?_⟩
  ·obtain ⟨w,hw,rfl⟩:=zVT.mp hq
   obtain ⟨x,hx,e⟩:=zGu.mp (zB8.mp hw)
   rw [<- e]
   exact (zUR h.dn hx).2
  ·obtain ⟨w,hw,rfl⟩:=zVT.mp hq
   have:=zNE (k.cl K hK w hw)
   exact ⟨by simp,by simpa using this⟩
 unfold zG1
 cases turns ps d K with
 |nil=>trivial
 |cons t ts=>
  simp only
  cases ask t d with
  |fin=>trivial
  |tells b ws=>exact ok b
  |hears a=>exact ok a
def IsP (ps:List Pl) (i:Nat) (p:List St):Prop:=∃ Ks,IsPart ps i Ks/\p=Ks.map (zG1 ps i Ks)
def zBU (ps:List Pl):List Nat->List (List St)->Prop
 | [],P=>P = []
 |i::is,P=>∃ p r,P=p::r/\IsP ps i p/\zBU ps is r
theorem zBU.get {ps:List Pl}:∀ {is:List Nat} {P:List (List St)},zBU ps is P->P.length=is.length/\∀ (j:Nat) (p:List St),P[j]?=some p->∃ i,is[j]?=some i/\IsP ps i p
 | [],P,h=>by simp only [zBU] at h;subst h;exact ⟨rfl,λj p e=>by simp at e⟩
 |i::is,P,h=>by
  obtain ⟨p,r,rfl,h1,h2⟩:=h
  obtain ⟨l,g⟩:=h2.get
  refine ⟨by simp [l],λj q e=>?_⟩
  cases j with
  |zero=>simp at e;subst e;exact ⟨i,rfl,h1⟩
  |succ j=>simp at e;simpa using g j q e
def zPd:List (Except Nat D)->Except Nat (List D)
 | []=>.ok []
 |.error c::_=>.error c
 |.ok y::r=>match zPd r with
  |.ok ys=>.ok (y::ys)
  |.error c=>.error c
theorem zKQ {Y:Rho->Option (Except Nat D)} {r:Nat->Except Nat D} {s0 s1:Sl}:∀ (is:List Nat),(∀ i∈is,Y [s0,s1,.v (.int (i:Int))]=some (r i))->zKu (gN 2) Y (is.map λ(i:Nat)=>D.int (0+(i:Int))) [s0,s1,.un]=some (zPd (is.map r))
 | [],_=>rfl
 |i::is,h=>by
  have ih:=zKQ is λj hj=>h j (zUu _ hj)
  have hi:=h i zU0
  have g:gN 2 (D.int (0+(i:Int))) [s0,s1,.un]=some [s0,s1,.v (.int (i:Int))]:=by rw [Int.zero_add];rfl
  rw [zUx,zKu,g,zUw,hi,zUw,zUx,ih]
  cases r i with
  |error c=>rfl
  |ok y=>
   simp only [zPd,zVG]
   all_goals (cases zPd (is.map r)<;>rfl)
def zJF (m:Int) (ps:List Pl) (i:Nat):Except Nat D:=(qA [dnD m ps,.int (i:Int)]).getD (.error 0)
theorem zKR {m:Int} {ps:List Pl} (hd:ym m ps) (hf:Few ps) {i:Nat} (hi:(i:Int)<m):qA [dnD m ps,.int (i:Int)]=some (zJF m ps i)/\(zJF m ps i = .error 0\/∃ p,IsP ps i p/\zJF m ps i = .ok (ptD p)):=by
 unfold zJF
 rcases zSX (m:=m) (ps:=ps) (d:=(i:Int)) ⟨hd,hf,by omega,hi⟩ with e|⟨Ks,hk,e⟩
 ·rw [e];exact ⟨rfl,.inl rfl⟩
 ·rw [e];exact ⟨rfl,.inr ⟨_,⟨Ks,hk,rfl⟩,rfl⟩⟩
theorem zK4 {f:ROl} {ρ:Rho} {ds:List D} (M:List D->Option (Except Nat D)) (h:f ρ=some ds):(λρ=>(f ρ).bind M) ρ=M ds:=by
 show (f ρ).bind M=M ds
 rw [h];rfl
theorem Y_is (C:Addr) (m:Int) (ps:List Pl) (s0:Sl) (d:D):zDE C [s0,.v (dnD m ps),.v d]=qA [dnD m ps,d]:=by
 unfold zDE
 exact zK4 qA rfl
theorem zII {m:Int} {ps:List Pl} (hd:ym m ps) (hf:Few ps):∀ (is:List Nat),(∀ i∈is,(i:Int)<m)->zPd (is.map (zJF m ps)) = .error 0\/∃ P,zBU ps is P/\zPd (is.map (zJF m ps)) = .ok (P.map ptD)
 | [],_=>.inr ⟨[],rfl,rfl⟩
 |i::is,h=>by
  have hi:=h i zU0
  have ih:=zII hd hf is λj hj=>h j (zUu _ hj)
  rw [zUx]
  rcases (zKR hd hf hi).2 with e|⟨p,hp,e⟩
  ·left;rw [e];rfl
  ·rw [e]
   rcases ih with e' | ⟨P,hP,e'⟩
   ·left;simp only [zPd,e']
   ·right
    exact ⟨p::P,⟨_,_,rfl,hp,hP⟩,by simp only [zPd,e',zUx]⟩
def zCO (P:List (List St)):Hl:=⟨P,P.map λ_=>0,[],[]⟩
theorem zPe {m:Int} {ps:List Pl} (hd:ym m ps) (hf:Few ps) {P:List (List St)} (h:zBU ps (List.range m.toNat) P):HOk 0 (zCO P)/\P.length=m.toNat:=by
 obtain ⟨l,g⟩:=h.get
 rw [zW3] at l
 have hm:=hd.m1
 have hm0:=hd.m0
 have one:∀ (j:Nat) (p:List St),P[j]?=some p->0<p.length/\∀ s∈p,OkSt p.length s:=λj p e=>by
  obtain ⟨i,ei,Ks,hk,rfl⟩:=g j p e
  have hi:=zWD.mp (zVF ei)
  refine ⟨?_,λs hs=>?_⟩
  ·have:=(zU7.mp hk.ze).1
   simpa using this
  ·obtain ⟨K,hK,rfl⟩:=zVT.mp hs
   rw [zU4]
   exact zSf (m:=m) ⟨hd,hf,by omega,by omega⟩ hk hK
 refine ⟨⟨by simp [zCO],by simp only [zCO];omega,λi p n e1 e2=>?_,λp hp=>?_,by simp [zCO],by simp [zCO],by simp [zCO]⟩,l⟩
 ·simp only [zCO,zVc] at e1 e2
  rw [e1] at e2
  simp at e2
  subst e2
  have:=(one i p e1).1
  omega
 ·obtain ⟨j,e⟩:=List.getElem?_of_mem hp
  exact (one j p e).2
theorem zKS {C:Addr} {f:Str} {x:Fl} {fs:List (Str×Fl)} {c:Option Addr} {s1:Sl} (h1:fs.lookup f=none) (h2:fs.length<900):zC8 C 0 f x [.o c (.ins C fs),s1]=some (.nx [.o c (.ins C (fs ++ [(f,x)])),s1]):=by
 have h3:(List.lookup f fs).isNone=true:=by rw [h1];rfl
 simp only [zC8,zVS,h3,h2,and_self,zVp,zWP]
theorem zNc (C:Addr) (s0 s1:Sl) (P:List (List St)):zP (gN 2) (λ_=>some true) (zCL C) (P.map ptD) [s0,s1,.un]=some ((P.map λ_=>(0:Int)).map D.int):=by
 have:=yI (g:=gN 2) (p:=λ_=>some true) (f:=zCL C) (emb:=ptD) (ρ:=[s0,s1,.un]) (λ_=>true) (λ_=>D.int 0) P λp _=>⟨_,rfl,rfl,λ_=>rfl⟩
 rw [this,zWK.mpr (by simp),zVt]
 rfl
theorem zPf {m:Int} {ps:List Pl} (hd:ym m ps) (hf:Few ps) (C:Addr):zFB C (.ins C []) [dnD m ps]=some (.error 0)\/∃ P,zBU ps (List.range m.toNat) P/\zFB C (.ins C []) [dnD m ps]=some (.ok (hlO C (zCO P))):=by
 have hm:=hd.m1
 have hm0:=hd.m0
 have inr:∀ i∈List.range m.toNat,(i:Int)<m:=λi hi=>by have:=zWD.mp hi;omega
 have rg:∀ s0,iR1 (zB (b2 (gR 1) (zR 0) ixO) zO) [s0,.v (dnD m ps)]=some (rng 0 m.toNat):=λs0=>by
  refine zF7 ?_ (by omega)
  have i0:ixO (dnD m ps) (.int 0)=some (.int m):=by simp only [dnD,ixO,at0]
  rw [show ((m.toNat:Nat):Int)=m by omega]
  exists 0,i0
 have rl:(rng 0 m.toNat).length<=1000000:=by rw [zI8];omega
 have sc:∀ a,zF2 1 (iR1 (zB (b2 (gR 1) (zR 0) ixO) zO)) (gN 2) (zDE C) [.o (some a) (.ins C []),.v (dnD m ps)]=some (zPd ((List.range m.toNat).map (zJF m ps))):=λa=>by
  unfold zF2
  rw [rg,zUw,zVE rl]
  exact zKQ _ λi hi=>(Y_is C m ps _ _).trans (zKR hd hf (inr i hi)).1
 rcases zII hd hf (List.range m.toNat) inr with e|⟨P,hP,e⟩
 ·left
  refine qQ λa=>?_
  show (zGC C [.o (some a) (.ins C []),.v (dnD m ps)]).bind _=_
  unfold zGC
  rw [zKI (c:=0) (by unfold zHw;rw [sc a,e];rfl)]
  rfl
 ·right
  obtain ⟨hl,_⟩:=hP.get
  rw [zW3] at hl
  refine ⟨P,hP,qQ λa=>?_⟩
  show (zGC C [.o (some a) (.ins C []),.v (dnD m ps)]).bind _=_
  unfold zGC
  have t1:zHw C 0 "parts" (zF2 1 (iR1 (zB (b2 (gR 1) (zR 0) ixO) zO)) (gN 2) (zDE C)) [.o (some a) (.ins C []),.v (dnD m ps)]=some (.o (.nx [.o (some a) (.ins C [(Str.ofString "parts",.v (.lst (P.map ptD)))]),.v (dnD m ps)])):=by
   unfold zHw
   rw [sc a,e,zUw]
   simp only
   rw [zKS rfl (by decide)]
   rfl
  rw [zCV t1]
  have f1:(λρ=>(zHH C 0 (Str.ofString "parts") ρ).bind flV) [.o (some a) (.ins C [(Str.ofString "parts",.v (.lst (P.map ptD)))]),.v (dnD m ps)]=some (.lst (P.map ptD)):=by
   simp only [zHH,zDc,zVS,zUw,zC6,zVp,zVM,zVJ,flV]
  have cz:=zNc C (.o (some a) (.ins C [(Str.ofString "parts",.v (.lst (P.map ptD)))])) (.v (dnD m ps)) P
  have lk1:List.lookup (Str.ofString "at") [(Str.ofString "parts",Fl.v (.lst (P.map ptD)))]=none:=by simp only [zVM,zFD,zXP]
  have t2:(λρ=>((zK 1 (iL (λρ=>(zHH C 0 (Str.ofString "parts") ρ).bind flV)) (gN 2) (λ_=>some true) (zCL C)) ρ).bind λxs=>zC8 C 0 (Str.ofString "at") (.f (.l xs)) ρ) [.o (some a) (.ins C [(Str.ofString "parts",.v (.lst (P.map ptD)))]),.v (dnD m ps)]=some (.nx [.o (some a) (.ins C [(Str.ofString "parts",.v (.lst (P.map ptD))),(Str.ofString "at",.f (.l ((P.map λ_=>(0:Int)).map D.int)))]),.v (dnD m ps)]):=by
   have cc:zK 1 (iL (λρ=>(zHH C 0 (Str.ofString "parts") ρ).bind flV)) (gN 2) (λ_=>some true) (zCL C) [.o (some a) (.ins C [(Str.ofString "parts",.v (.lst (P.map ptD)))]),.v (dnD m ps)]=some ((P.map λ_=>(0:Int)).map D.int):=by
    unfold zK iL
    simp only at f1
    simp only [f1,asL,zUw]
    rw [zVE (by rw [zU4];omega)]
    exact cz
   simp only [cc,zUw]
   rw [zKS lk1 (by simp)]
   rfl
  have lk2:List.lookup (Str.ofString "rows") [(Str.ofString "parts",Fl.v (.lst (P.map ptD))),(Str.ofString "at",.f (.l ((P.map λ_=>(0:Int)).map D.int)))]=none:=by simp only [zVM,zDG,zGD,zXP]
  have lk3:List.lookup (Str.ofString "past") [(Str.ofString "parts",Fl.v (.lst (P.map ptD))),(Str.ofString "at",.f (.l ((P.map λ_=>(0:Int)).map D.int))),(Str.ofString "rows",.f (.tl []))]=none:=by simp only [zVM,zDH,zGE,zD3,zXP]
  have t3:=zKS (C:=C) (f:=Str.ofString "rows") (x:=.f (.tl [])) (c:=some a) (s1:=.v (dnD m ps)) lk2 (by simp)
  have t4:=zKS (C:=C) (f:=Str.ofString "past") (x:=.f (.l [])) (c:=some a) (s1:=.v (dnD m ps)) lk3 (by simp)
  have t5:(oX (sq (λρ=>((zK 1 (iL (λρ=>(zHH C 0 (Str.ofString "parts") ρ).bind flV)) (gN 2) (λ_=>some true) (zCL C)) ρ).bind λxs=>zC8 C 0 (Str.ofString "at") (.f (.l xs)) ρ) (sq (λρ=>zC8 C 0 (Str.ofString "rows") (.f (.tl [])) ρ) (λρ=>(zO ρ).bind λxs=>zC8 C 0 (Str.ofString "past") (.f (.l xs)) ρ)))) [.o (some a) (.ins C [(Str.ofString "parts",.v (.lst (P.map ptD)))]),.v (dnD m ps)]=some (.o (.nx [.o (some a) (hlO C (zCO P)),.v (dnD m ps)])):=by
   refine zH8 ?_
   rw [zm t2,zm t3]
   exact t4
  rw [t5]
  simp only [zUw,zA3,zVS,zVp,zVG]
theorem zPg {m:Int} {ps:List Pl} (hd:ym m ps) (hf:Few ps) (C:Addr):zAE C [dnD m ps]=some (.v .non)\/∃ P,zBU ps (List.range m.toNat) P/\zAE C [dnD m ps]=some (.o none (hlO C (zCO P))):=by
 have s1:qI 1 (λ_=>some D.non) [.v (dnD m ps),.un]=some (.nx [.v (dnD m ps),.v .non]):=rfl
 have go:zAE C [dnD m ps]=(zCN C [.v (dnD m ps),.un]).bind zT3:=rfl
 rw [go]
 unfold zCN
 rw [zm s1]
 rcases zPf hd hf C with e|⟨P,hP,e⟩
 ·left
  have t:zF1 C 1 (zB (gV 0) zO) (zFB C) 0 (qI 1 (λ_=>some D.non)) [.v (dnD m ps),.v .non]=some (.nx [.v (dnD m ps),.v .non]):=by
   unfold zF1
   rw [show (zB (gV 0) zO) [.v (dnD m ps),.v .non]=some [dnD m ps] from rfl,zUw,e]
   rfl
  rw [zm t]
  rfl
 ·right
  refine ⟨P,hP,?_⟩
  have t:zF1 C 1 (zB (gV 0) zO) (zFB C) 0 (qI 1 (λ_=>some D.non)) [.v (dnD m ps),.v .non]=some (.nx [.v (dnD m ps),.o none (hlO C (zCO P))]):=by
   unfold zF1
   rw [show (zB (gV 0) zO) [.v (dnD m ps),.v .non]=some [dnD m ps] from rfl,zUw,e]
   rfl
  rw [zm t]
  rfl
end LG
namespace K08
open PySem L2 RD LG
def qU:ROo:=(sIf (bOr (zRG (bB (b2 (gR 3) (λ_=>some (D.str "tell")) eqO)) (bB (b2 (gR 4) (gR 0) eqO))) (zRG (bB (b2 (gR 3) (λ_=>some (D.str "hear")) eqO)) (bB (b2 (gR 5) (gR 0) eqO)))) (zFV 2 (λρ=>((zB (gV 3) (zB (gV 4) (zB (gV 5) (zB (gV 6) zO)))) ρ).map D.tup)) (λρ=>some (Out.nx ρ)))
abbrev zCo:List Str:=["_law_dancer","_law_done","_law_found","_law_kind","_law_one","_law_other","_law_word_here"]
def zBV:ROo:=(sq (qr 2 zO) (sq (zi (iT (gV 1)) (gT 4 (gCs (gN 3) (gCs (gN 4) (gCs (gN 5) (gCs (gN 6) gNl))))) qU) (zAC λρ=>zLH ρ 2)))
def zBW (ds:List D):Option D:=zDY zCo zBV ds
def zAb:ROo:=(sIf (bB (b2 (b2 (b2 (gR 0) (zR 1) ixO) (gR 4) ixO) (λρ=>((zB (λ_=>some (D.str "end")) zO) ρ).map D.tup) neO)) (sq (qI 6 (b2 (b2 (b2 (gR 0) (zR 1) ixO) (gR 4) ixO) (zR 3) ixO)) (sq (zP4 (b2 (gR 6) (λρ=>((zB (gV 5) (zB (zR 9817) (zB (b1 (gR 6) zEF) zO))) ρ).bind zT) ixO) (gT 2 (gCs (gN 7) (gCs (gN 4) gNl)))) (qI 3 (b2 (gR 3) (λρ=>((zB (gV 7) zO) ρ).map D.tup) qN)))) (λρ=>some (Out.nx ρ)))
abbrev zFI:List Str:=["_law_dance_here","_law_script","_law_k","_law_way_here","_law_at","_law_cell_here","_law_choices","_law_word_here"]
def zFJ:ROo:=(sq (qI 3 (λρ=>(zO ρ).map D.tup)) (sq (qI 4 (zR 0)) (sq (zi (iL (λρ=>((b3S (gR 1) (oI (gV 2)) (oI (b2 (gR 2) (zR 30) qN)) slF) ρ).map D.lst)) (gN 5) zAb) (zAC (gV 3)))))
def zCA (ds:List D):Option D:=zDY zFI zFJ ds
def zBX (C:Addr):ROo:=(sq (sIf (bB (b2 (λρ=>((zB (λ_=>some (D.str "hear")) (zB (gV 2) (zB (gV 3) (zB (gV 4) zO)))) ρ).map D.tup) (qz C "moves" 0 zO (zAs C)) zRL)) (zRx (λ_=>some (D.bl false))) (λρ=>some (Out.nx ρ))) (zFX C "do" 0 (zB (λρ=>((zB (λ_=>some (D.str "hear")) (zB (gV 2) (zB (gV 3) (zB (gV 4) zO)))) ρ).map D.tup) zO) (zNv C)))
abbrev zCp:List Str:=["_law_hall_here","_law_some","_law_one","_law_other","_law_word_here"]
def zBY (C:Addr):ROo:=(sq (zi (iL (gV 1)) (gT 3 (gCs (gN 2) (gCs (gN 3) (gCs (gN 4) gNl)))) (zBX C)) (zRx (λ_=>some (D.bl true))))
def zBZ (C:Addr) (x:Ob) (ds:List D):Option (D×Ob):=zIo λa=>zT6 zCp (zBY C) a x ds
def zJG (C:Addr):ROo:=(sq (zP4 (b2 (b2 (gR 1) (zR 1) ixO) (gR 4) ixO) (gT 4 (gCs (gN 7) (gCs (gN 8) (gCs (gN 9) (gCs (gN 10) gNl)))))) (sq (sIf (bB (b2 (λρ=>((zB (λ_=>some (D.str "tell")) (zB (gV 8) (zB (gV 9) (zB (gV 6) zO)))) ρ).map D.tup) (qz C "moves" 2 zO (zAs C)) zRL)) (zAC (λ_=>some (D.bl false))) (λρ=>some (Out.nx ρ))) (sq (zFX C "do" 2 (zB (λρ=>((zB (λ_=>some (D.str "tell")) (zB (gV 8) (zB (gV 9) (zB (gV 6) zO)))) ρ).map D.tup) zO) (zNv C)) (sq (zC9 2 (zB (λρ=>((zB (λρ=>((zB (gV 8) (zB (gV 9) (zB (gV 6) zO))) ρ).map D.tup) zO) ρ).map D.lst) zO) (zBZ C) (zAC (λ_=>some (D.bl false))) (λρ=>some (Out.nx ρ))) (sq (zFV 5 (λρ=>((zB (gV 8) (zB (gV 9) (zB (gV 6) zO))) ρ).map D.tup)) (qI 4 (dIx (gV 10) (gV 6))))))))
def zJH (C:Addr):ROo:=(sq (sIf (bB (b2 (gR 8) (gR 11) eqO)) (zFV 12 (λρ=>((zB (λ_=>some (D.str "tell")) (zB (gV 8) (zB (gV 9) (zB (gV 6) zO)))) ρ).map D.tup)) (λρ=>some (Out.nx ρ))) (sIf (bB (b2 (gR 9) (gR 11) eqO)) (zFV 12 (λρ=>((zB (λ_=>some (D.str "hear")) (zB (gV 8) (zB (gV 9) (zB (gV 6) zO)))) ρ).map D.tup)) (λρ=>some (Out.nx ρ))))
def zJI (C:Addr):ROo:=(sq (qr 12 zO) (sq (zi (iL (gV 5)) (gT 3 (gCs (gN 8) (gCs (gN 9) (gCs (gN 6) gNl)))) (zJH C)) (sIf (bB (b2 (λρ=>((zB (gV 11) (zB (qz C "done" 2 zO (zIA C)) zO)) ρ).bind zBW) (gR 12) neO)) (zAC (λ_=>some (D.bl false))) (λρ=>some (Out.nx ρ)))))
def zJJ (C:Addr):ROb:=(zRG (bB (b2 (gR 8) (gR 13) neO)) (bB (b2 (qz C "row" 2 (zB (gV 8) (zB (gV 13) zO)) (zG3 C)) (λρ=>(zO ρ).map D.tup) neO)))
def zNd (C:Addr):ROd:=(gV 13)
def zJK (C:Addr):ROo:=(sIf (zLI (λρ=>((zK 1 (iR1 (zB (b2 (gR 1) (zR 0) ixO) zO)) (gN 13) (zJJ C) (zNd C)) ρ).map D.lst)) (zAC (λ_=>some (D.bl false))) (λρ=>some (Out.nx ρ)))
def zSg (C:Addr):ROo:=(sq (zi (iR1 (zB (b2 (gR 1) (zR 0) ixO) zO)) (gN 8) (zJK C)) (zAC (λ_=>some (D.bl true))))
def zNe (C:Addr):ROo:=(sq (zi (iR1 (zB (b2 (gR 1) (zR 0) ixO) zO)) (gN 11) (zJI C)) (zSg C))
def zNf (C:Addr):ROo:=(sq (qI 4 (zR 0)) (sq (qr 5 zO) (sq (zi (iT (gV 3)) (gN 6) (zJG C)) (λρ=>(zNe C) (frz 5 ρ)))))
def zKT (C:Addr):ROo:=(sq (qI 3 (λρ=>((zB (gV 1) (zB (gV 0) (zB (zR 5) zO))) ρ).bind zCA)) (zNf C))
def zKU (C:Addr):ROo:=(sq (zFY 2 (zB (gV 1) zO) (zAE C)) (sq (sIf (isN 2) (zAC (λ_=>some (D.bl true))) (λρ=>some (Out.nx ρ))) (zKT C)))
abbrev zSh:List Str:=["_law_script","_law_dance_here","_law_hall_here","_law_way_here","_law_at","_law_deeds_here","_law_word_here","_law_kind","_law_one","_law_other","_law_choices","_law_dancer","_law_due"]
def zPh (C:Addr):ROo:=(sq (qI 1 (λρ=>((zB (gV 0) zO) ρ).bind qa)) (sq (sIf (bB (b2 (b2 (λρ=>((zB (gV 0) (zB (zR 4) zO)) ρ).bind z7) (zR 3) zHb) (zR 0) eqO)) (qI 1 (λρ=>((zB (gV 1) (zB (b2 (λρ=>((zB (gV 0) (zB (zR 4) zO)) ρ).bind z7) (zR 3) zOL) zO)) ρ).bind qK)) (λρ=>some (Out.nx ρ))) (zKU C)))
def m_law (C:Addr) (ds:List D):Option D:=zDY zSh (zPh C) ds
end K08
namespace K08
open PySem L2 RD LG
theorem zNg {ps:List Pl} {d:Int}:∀ (k:Nat) (found ws f:List Int),run ps d k found ws=some f->(∀ x∈found,x∈f)/\(∀ x∈ws,x∈f)/\∀ x∈f,x∉found->∀ y∈zI5 ps d x,y∈f
 |0,found,ws,f,h=>by simp [LG.run] at h
 |k+1,found,ws,f,h=>by
  unfold LG.run at h
  cases e:ws.getLast? with
  |none=>
   rw [e] at h
   cases h
   rw [zD2 e]
   exact ⟨λx hx=>hx,λx hx=>(nomatch hx),λx hx nx=>absurd hx nx⟩
  |some n=>
   rw [e] at h
   simp only at h
   have ew:=(zEL e).1
   split at h
   ·rename_i hn
    obtain ⟨a,b,c⟩:=zNg k found ws.dropLast f h
    refine ⟨a,λx hx=>?_,c⟩
    rw [ew] at hx
    rcases zU2.mp hx with hx|hx
    ·exact b x hx
    ·cases zUy.mp hx;exact a n hn
   ·obtain ⟨a,b,c⟩:=zNg k (found ++ [n]) (ws.dropLast++zI5 ps d n) f h
    refine ⟨λx hx=>a x (zVi _ hx),λx hx=>?_,λx hx nx y hy=>?_⟩
    ·rw [ew] at hx
     rcases zU2.mp hx with hx|hx
     ·exact b x (zVi _ hx)
     ·cases zUy.mp hx;exact a n (zVD _ (zUy.mpr rfl))
    ·by_cases q:x=n
     ·subst q;exact b y (zVD _ hy)
     ·exact c x hx (λz=>(zU2.mp z).elim nx λz=>q (zUy.mp z)) y hy
def Cd (ps:List Pl) (d:Int) (K:List Int):Prop:=∀ x∈K,∀ y∈zI5 ps d x,y∈K
theorem zQW {m:Int} {ps:List Pl} (h:ym m ps) (d:Int) {S:List Int} (hs:Inn ps S) (hl:S.length<=100):(∀ x∈S,x∈apt ps d S)/\Cd ps d (apt ps d S):=by
 obtain ⟨f,e1,_,_⟩:=zJ3 h d S hs hl
 obtain ⟨_,b,c⟩:=zNg 300 [] S f e1
 have ea:apt ps d S=zBs f:=by simp [apt,e1]
 rw [ea]
 exact ⟨λx hx=>zA9.mpr (b x hx),λx hx y hy=>zA9.mpr (c x (zA9.mp hx) (λz=>nomatch z) y hy)⟩
def Kn (ps:List Pl) (h:Hl) (x:Int) (i:Nat):Prop:=∃ Ks K,∃ n:Nat,h.P[i]?=some (Ks.map (zG1 ps i Ks))/\IsPart ps i Ks/\h.at'[i]?=some (n:Int)/\Ks[n]?=some K/\x∈K/\Cd ps i K
theorem zQX {m:Int} {ps:List Pl} (hd:ym m ps) (hf:Few ps) {h:Hl} {x:Int} {i:Nat} (hi:(i:Int)<m) (kn:Kn ps h x i) {a b y:Int} {ch:List (Str×Int)} {w:Str} (hp:ps[x.toNat]?=some (.tell a b ch)) (hw:(w,y)∈ch) (ht:(i:Int)=a\/(i:Int)=b) :
  ∃ prs,∃ n:Nat,zID h i=some (if a=(i:Int) then .act true b prs else .act false a prs)/\(w,(n:Int))∈prs/\zBe h i w=some (n:Int) /\
   ∀ h':Hl,h'.P=h.P->h'.at'[i]?=some (n:Int)->Kn ps h' y i:=by
 obtain ⟨Ks,K,k,e1,pt,e2,e3,hx,cd⟩:=kn
 have hK:K∈Ks:=zVF e3
 have al:=pt.al K hK
 have mem:Pl.tell a b ch∈turns ps i K:=zV3.mpr ⟨zVR.mpr ⟨x,hx,hp⟩,by simpa [isT,tp] using ht⟩
 have hq:(w,y)∈zD9 ps i K:=zV5.mpr ⟨_,mem,hw⟩
 have hww:w∈wds (zD9 ps i K):=zGu.mpr ⟨_,hq,rfl⟩
 have hwo:w∈qy ps i K:=zB8.mpr hww
 have nk:=pt.cl K hK w hwo
 have no:=zND hd hf ⟨Int.natCast_nonneg i,hi⟩ (pt.st K hK) al w hww
 obtain ⟨c1,c2⟩:=zQW hd i no.2.1 (by have:=no.2.2;omega)
 have hs:zID h i=some (zG1 ps i Ks K):=by
  unfold zID
  rw [e1,e2]
  simp only [zUw,zWj,zVc,e3,zVG]
 have so:zG1 ps i Ks K=if a=(i:Int) then .act true b (zBl ps i Ks K) else .act false a (zBl ps i Ks K):=by
  unfold zG1
  unfold zFc at al
  cases e:turns ps i K with
  |nil=>rw [e] at mem;cases mem
  |cons t ts=>
   rw [e] at al mem
   simp only at al ⊢
   have q:=of_decide_eq_true (zWa.mp al _ mem)
   rw [<- q]
   unfold LG.ask
   by_cases c:a=(i:Int)<;>simp [c]
 have hin:(w,(zF9 Ks (zI9 ps i K w):Int))∈zBl ps i Ks K:=zVT.mpr ⟨w,hwo,rfl⟩
 have fd:∀ l:List Str,w∈l->(l.map λw=>(w,(zF9 Ks (zI9 ps i K w):Int))).find? (λq=>decide (q.1=w))=some (w,(zF9 Ks (zI9 ps i K w):Int)):=by
  intro l
  induction l with
  |nil=>intro z;cases z
  |cons v l ih=>
   intro z
   rw [zUx,zVU]
   by_cases c:v=w
   ·subst c;simp
   ·simp only [c,zV2]
    exact ih ((zU1.mp z).resolve_left λq=>c q.symm)
 refine ⟨zBl ps i Ks K,zF9 Ks (zI9 ps i K w),hs.trans (zVw some so),hin,?_,λh' p1 p2=>⟨Ks,_,_,by rw [p1];exact e1,pt,p2,zKF nk,c1 y ?_,c2⟩⟩
 ·unfold zBe
  rw [hs,so]
  have:=fd _ hwo
  by_cases c:a=(i:Int)
  ·simp only [zVE c];unfold zBl;rw [this];rfl
  ·simp only [zVe c];unfold zBl;rw [this];rfl
 ·exact zVT.mpr ⟨(w,y),zV3.mpr ⟨hq,zVz rfl⟩,rfl⟩
theorem Kn.on {ps:List Pl} {h h':Hl} {x y:Int} {i:Nat} (kn:Kn ps h x i) {a b:Int} {ch:List (Str×Int)} {w:Str} (hp:ps[x.toNat]?=some (.tell a b ch)) (hw:(w,y)∈ch) (ha:(i:Int)≠a) (hb:(i:Int)≠b) (p1:h'.P=h.P) (p2:h'.at'[i]?=h.at'[i]?):Kn ps h' y i:=by
 obtain ⟨Ks,K,k,e1,pt,e2,e3,hx,cd⟩:=kn
 refine ⟨Ks,K,k,by rw [p1];exact e1,pt,by rw [p2];exact e2,e3,cd x hx y ?_,cd⟩
 unfold zI5
 rw [hp]
 simp only [tp,ha,hb,zV2,zWv,zVu,zV8]
 exact zVT.mpr ⟨_,hw,rfl⟩
theorem zPi {h:Hl} {i:Nat} {o n:Int} {prs:List (Str×Int)} {w:Str} (hi:i<h.P.length) (hs:zID h i=some (.act true o prs)) (hw:(w,n)∈prs):(⟨true,i,o,w⟩:Mv)∈mvs h:=by
 refine zV5.mpr ⟨i,zWD.mpr hi,?_⟩
 unfold zDv
 rw [hs]
 exact zVT.mpr ⟨_,hw,rfl⟩
theorem zPj {h:Hl} {i:Nat} {o n:Int} {prs:List (Str×Int)} {w:Str} (hi:i<h.P.length) (hs:zID h i=some (.act false o prs)) (hw:(w,n)∈prs) (hr:qG h o i = [w]):(⟨false,o,i,w⟩:Mv)∈mvs h:=by
 refine zV5.mpr ⟨i,zWD.mpr hi,?_⟩
 unfold zDv
 rw [hs]
 exact zVT.mpr ⟨_,zV3.mpr ⟨hw,zVz (by rw [hr];rfl)⟩,rfl⟩
def doV (h:Hl) (v:Mv):Hl:=doM h v ((zBe h v.who v.w).getD 0)
theorem zQY {k:Nat} {h:Hl} (H:HOk k h) (hk:k<=1000) (C:Addr) {v:Mv} (hv:v∈mvs h):zNv C (hlO C h) [mvD v]=some (hlO C (doV h v))/\HOk (k+1) (doV h v):=by
 obtain ⟨n,o,prs,y1,y2,y3,y4,y5⟩:=zUk H hk C hv
 have e:doV h v=doM h v n:=by unfold doV;rw [y4];rfl
 rw [e]
 exact ⟨y5,zQV H y2 y3⟩
theorem zUl {m:Int} {ps:List Pl} (hd:ym m ps) (hf:Few ps) {k:Nat} {h:Hl} (H:HOk k h) (hk:k<=900) (hm:h.P.length=m.toNat) {x:Int} (S:∀ i:Nat,(i:Int)<m->Kn ps h x i) (R:∀ a b,qG h a b = []) {a b y:Int} {ch:List (Str×Int)} {w:Str} (hp:ps[x.toNat]?=some (.tell a b ch)) (hw:(w,y)∈ch) :
  ∃ h1 h2,(⟨true,a,b,w⟩:Mv)∈mvs h/\(⟨false,a,b,w⟩:Mv)∈mvs h1/\HOk (k+1) h1/\HOk (k+2) h2/\(∀ C,zNv C (hlO C h) [mvD ⟨true,a,b,w⟩]=some (hlO C h1))/\(∀ C,zNv C (hlO C h1) [mvD ⟨false,a,b,w⟩]=some (hlO C h2)) /\
   h2.P.length=m.toNat/\h2.past=h.past ++ [⟨true,a,b,w⟩,⟨false,a,b,w⟩]/\(∀ i:Nat,(i:Int)<m->Kn ps h2 y i)/\∀ a b,qG h2 a b = []:=by
 have ok:=hd.ok _ (zVF hp)
 have a0:=ok.a0;have a1:=ok.a1;have b0:=ok.b0;have b1:=ok.b1;have ne:=ok.ne
 obtain ⟨A,rfl⟩:∃ A:Nat,a=(A:Int):=⟨a.toNat,by omega⟩
 obtain ⟨B,rfl⟩:∃ B:Nat,b=(B:Int):=⟨b.toNat,by omega⟩
 have nAB:A≠B:=λz=>ne (by rw [z])
 have hA:A<h.P.length:=by omega
 have hB:B<h.P.length:=by omega
 obtain ⟨pa,na,sa,wa,xa,ka⟩:=zQX hd hf a1 (S A a1) hp hw (.inl rfl)
 obtain ⟨pb,nb,sb,wb,xb,kb⟩:=zQX hd hf b1 (S B b1) hp hw (.inr rfl)
 rw [zVE rfl] at sa
 rw [zVe ne] at sb
 have v1:=zPi hA sa wa
 have d1:∀ C,_:=λC=>zQY H (by omega) C v1
 have e1:doV h ⟨true,A,B,w⟩=⟨h.P,h.at'.set A na,zLL (A,B) w h.R,h.past ++ [⟨true,A,B,w⟩]⟩:=by
  unfold doV
  rw [show (Mv.who ⟨true,A,B,w⟩)=A from rfl,xa]
  rfl
 have H1:=(d1 0).2
 generalize hh1:doV h ⟨true,A,B,w⟩=h1 at d1 H1
 have r1:∀ a b,qG h1 a b=if (a,b)=((A:Int),(B:Int)) then [w] else []:=λa b=>by
  have:qG h1 a b=qG { h with R:=zLL (A,B) w h.R } a b:=by rw [<- hh1,e1];rfl
  rw [this,zNa,R];rfl
 have P1:h1.P=h.P:=by rw [<- hh1];rfl
 have t1:h1.at'=h.at'.set A na:=by rw [<- hh1,e1]
 have q1:∀ i,i≠A->h1.at'[i]?=h.at'[i]?:=λi z=>by rw [t1,zVH (Ne.symm z)]
 have s1:zID h1 B=some (.act false A pb):=by
  rw [<- sb];unfold zID;rw [P1,q1 B (Ne.symm nAB)]
 have x1:zBe h1 B w=some (nb:Int):=by
  rw [<- xb];unfold zBe;rw [s1,sb]
 have v2:=zPj (by rw [P1];exact hB) s1 wb (by rw [r1,zVE rfl])
 have d2:∀ C,_:=λC=>zQY H1 (by omega) C v2
 have e2:doV h1 ⟨false,A,B,w⟩=⟨h1.P,h1.at'.set B nb,zIG (A,B) List.tail h1.R,h1.past ++ [⟨false,A,B,w⟩]⟩:=by
  unfold doV
  rw [show (Mv.who ⟨false,A,B,w⟩)=B from rfl,x1]
  rfl
 have hl:h.at'.length=h.P.length:=H.len
 refine ⟨h1,doV h1 ⟨false,A,B,w⟩,v1,v2,H1,(d2 0).2,λC=>(d1 C).1,λC=>(d2 C).1,by rw [e2];show h1.P.length=_;rw [P1,hm],?_,λi hi=>?_,λa b=>?_⟩
 ·rw [e2,<- hh1,e1];simp
 ·have p2:(doV h1 ⟨false,A,B,w⟩).P=h.P:=by rw [e2];exact P1
  have t2:(doV h1 ⟨false,A,B,w⟩).at'=(h.at'.set A na).set B nb:=by rw [e2,t1]
  by_cases c:i=A
  ·subst c
   exact ka _ p2 (by rw [t2,zVH (Ne.symm nAB),zVQ (by omega)])
  ·by_cases c':i=B
   ·subst c'
    exact kb _ p2 (by rw [t2,zVQ (by rw [List.length_set];omega)])
   ·exact (S i hi).on hp hw (λz=>c (Int.ofNat_inj.mp z)) (λz=>c' (Int.ofNat_inj.mp z)) p2 (by rw [t2,zVH (Ne.symm c'),zVH (Ne.symm c)])
 ·have:qG (doV h1 ⟨false,A,B,w⟩) a b=qG { h1 with R:=zIG (A,B) List.tail h1.R } a b:=by rw [e2];rfl
  rw [this,zNb,r1]
  split<;>simp_all
theorem Kn.zero {m:Int} {ps:List Pl} (hd:ym m ps) {P:List (List LG.St)} (hP:zBU ps (List.range m.toNat) P) {i:Nat} (hi:(i:Int)<m):Kn ps (zCO P) 0 i:=by
 obtain ⟨l,g⟩:=hP.get
 rw [zW3] at l
 have hi':i<P.length:=by omega
 obtain ⟨j,ej,Ks,pt,ep⟩:=g i P[i] (by simp [hi'])
 have:j=i:=by
  have:=zU7.mp ej
  obtain ⟨h1,h2⟩:=this
  rw [<- h2,List.getElem_range]
 subst this
 obtain ⟨c1,c2⟩:=zQW hd j (S:=[0]) (λx hx=>by cases zUy.mp hx;have:=hd.n0;omega) (by simp)
 exact ⟨Ks,_,0,by show P[j]?=_;rw [List.getElem?_eq_getElem hi',ep],pt,by simp [zCO,hi'],pt.ze,c1 0 (by simp),c2⟩
end K08
namespace K08
open PySem L2 RD LG
def Way (ps:List Pl):Int->List Str->Int->Prop
 |x,[],y=>x=y
 |x,w::ws,y=>∃ a b ch z,ps[x.toNat]?=some (.tell a b ch)/\(w,z)∈ch/\Way ps z ws y
theorem Way.snoc {ps:List Pl} {y z a b:Int} {ch:List (Str×Int)} {w:Str} (hp:ps[y.toNat]?=some (.tell a b ch)) (hw:(w,z)∈ch):∀ {ws:List Str} {x:Int},Way ps x ws y->Way ps x (ws ++ [w]) z
 | [],x,h=>by cases h;exact ⟨a,b,ch,z,hp,hw,rfl⟩
 |v::ws,x,h=>by
  obtain ⟨a',b',ch',z',p,q,r⟩:=h
  exact ⟨a',b',ch',z',p,q,Way.snoc hp hw r⟩
def WayI (m:Int) (ps:List Pl) (s k:D) (b:Nat) (ρ:Rho):Prop:=∃ (ws:List Str) (n:Int) (s5 s6 s7:Sl),ws.length<=b/\Way ps 0 ws n/\0<=n/\n<(ps.length:Int)/\ρ = [.v (dnD m ps),.v s,.v k,.v (.tup (ws.map D.str)),.v (.int n),s5,s6,s7]
theorem zPk {m:Int} {ps:List Pl} (h:ym m ps) {s k:D} {b:Nat} (hb:b<=1000) {c:Int} {ρ:Rho} (i:WayI m ps s k b ρ):∃ ρ',(gN 5 (.int c) ρ).bind zAb=some (.nx ρ')/\WayI m ps s k (b+1) ρ':=by
 obtain ⟨ws,n,s5,s6,s7,hl,hy,h0,h1,rfl⟩:=i
 obtain ⟨p,hp,e1,e2⟩:=zMw h0 h1
 have ok:=h.ok p hp
 have e0:ixO (dnD m ps) (.int 1)=some (.tup (ps.map plD)):=by simp only [dnD,ixO,at1]
 have e5:ixO (.tup (ps.map plD)) (.int n)=some (plD p):=e2
 cases p with
 |fin=>
  refine ⟨_,?_,ws,n,.v (.int c),s6,s7,by omega,hy,h0,h1,rfl⟩
  exists zAb,e0,e5,zMx,dep,plD,eqO,zP,gN,gT,gCs,gNl,zo,zc,neO
 |tell a b' ch=>
  have hc:(0:Int)<(ch.length:Int):=by have:=ok.l0;omega
  obtain ⟨q,hq,e6⟩:=at_ch (yd c 9817 hc) (ye c 9817 hc)
  have e7:ixO (plD (.tell a b' ch)) (.int 3)=some (.tup (ch.map chD)):=by simp only [plD,ixO,at3]
  have e8:ixO (.tup (ch.map chD)) (.int (mix c 9817 (ch.length:Int)))=some (.tup [.str q.1,.int q.2]):=e6
  have hq2:=ok.nx q hq
  have hle:ws.length<=999999:=by omega
  refine ⟨_,?_,ws ++ [q.1],q.2,.v (.int c),.v (.tup (ch.map chD)),.v (.str q.1),by simp;omega,hy.snoc e1 hq,hq2.1,hq2.2,rfl⟩
  have hd:dep (.tup [.str "end"])<=20:=by decide
  have ne1:neO (plD (.tell a b' ch)) (.tup [.str "end"])=some (.bl true):=by
   unfold neO;rw [zVE (by omega),zMx];rfl
  exists zAb,e0,e5,e7,e8,ne1,qi,hc,hle,zVK,eqO,zP,gN,gT,gCs,gNl,zo,zc
theorem zUm {m:Int} {ps:List Pl} (h:ym m ps) (ns:List Int) (hn:ns.length<=63):∃ (ws:List Str) (n:Int),ws.length<=63/\Way ps 0 ws n/\zCA [dnD m ps,.lst (ns.map D.int),.int 5]=some (.tup (ws.map D.str)):=by
 obtain ⟨cs,e1,l1,_⟩:=zSF D.int ns (some 5) (some 35)
 obtain ⟨ρ',e2,ws,n,s5,s6,s7,hl,hy,h0,h1,rfl⟩:=zE9 (g:=gN 5) (F:=zAb) (WayI m ps (.lst (ns.map D.int)) (.int 5)) 63 (ds:=cs.map D.int) (k:=0) (ρ:=[.v (dnD m ps),.v (.lst (ns.map D.int)),.v (.int 5),.v (.tup []),.v (.int 0),.un,.un,.un]) (by rw [zU4];omega) (by
  intro x hx k ρ hk hI
  obtain ⟨c,_,rfl⟩:=zVT.mp hx
  exact zPk h (by omega) hI) ⟨[],0,.un,.un,.un,by simp,rfl,by decide,by have:=h.n0;omega,rfl⟩
 refine ⟨ws,n,by simp at hl;omega,hy,?_⟩
 exists zCA,zFJ,e1,e2,ixO,eqO,eqD,eqL,zP,gN,gT,gCs,gNl,neO,dep
def ddD (q:Int×Int×Str):D:=.tup [.int q.1,.int q.2.1,.str q.2.2]
def tw (q:Int×Int×Str):List Mv:=[⟨true,q.1,q.2.1,q.2.2⟩,⟨false,q.1,q.2.1,q.2.2⟩]
theorem zQZ {v:Mv} {l:List Mv} (h:v∈l):zRL (mvD v) (.tup (l.map mvD))=some (.bl false):=by
 have:=zUe v l
 unfold inO at this
 unfold zRL
 split at this
 ·rename_i c
  rw [zVE c]
  simp only [zWk,D.bl.injEq] at this ⊢
  rw [this,zVz h];rfl
 ·cases this
theorem zNh {c:ROb} {F F':ROo} {ρ:Rho} {r:Option Out} (h:c ρ=some false) (k:F' ρ=r):sIf c F F' ρ=r:=by
 rw [<- k];simp only [sIf,h,zUw,zVu,zV8]
theorem zJL {f:ROd} {ρ:Rho} {b:Bool} (h:f ρ=some (.bl b)):bB f ρ=some b:=by unfold bB;rw [h];rfl
theorem zPl {i:Nat} {fl:ROl} {F:Ob->List D->Option (D×Ob)} {FA FB:ROo} {ρ:Rho} {c:Option Addr} {x x':Ob} {ds:List D} (h1:ρ[i]?=some (.o c x)) (h2:fl ρ=some ds) (h3:F x ds=some (.bl true,x')):zC9 i fl F FA FB ρ=FB (ρ.set i (.o c x')):=by
 unfold zC9;rw [h1];simp only [h2,zUw,h3,zVp]
theorem zQa {i:Nat} {f:ROd} {ρ:Rho} {xs:List D} {d:D} (h1:gL ρ i=some xs) (h2:xs.length<16000000) (h3:f ρ=some d):zFV i f ρ=some (.nx (ρ.set i (.l (xs ++ [d])))):=by
 unfold zFV;rw [h1,zUw,zVE h2,h3,zVG]
theorem heard {k:Nat} {h1 h2:Hl} {a b:Int} {w:Str} (H1:HOk k h1) (v2:(⟨false,a,b,w⟩:Mv)∈mvs h1) (C:Addr) (d2:zNv C (hlO C h1) [mvD ⟨false,a,b,w⟩]=some (hlO C h2)):zBZ C (hlO C h1) [.lst [ddD (a,b,w)]]=some (.bl true,hlO C h2):=by
 refine qQ λad=>?_
 have t1:zBX C [.o (some ad) (hlO C h1),.v (.lst [ddD (a,b,w)]),.v (.int a),.v (.int b),.v (.str w)]=some (.nx [.o (some ad) (hlO C h2),.v (.lst [ddD (a,b,w)]),.v (.int a),.v (.int b),.v (.str w)]):=
  (zm (zNh (zJL (zB5 (a:=mvD ⟨false,a,b,w⟩) rfl (zAA rfl (zG7 C h1) rfl (zSb H1 C)) (zQZ v2))) rfl)).trans (zEN (ds:=[mvD ⟨false,a,b,w⟩]) rfl (zUZ C h1) rfl d2)
 have f:zc (gT 3 (gCs (gN 2) (gCs (gN 3) (gCs (gN 4) gNl)))) (zBX C) [ddD (a,b,w)] [.o (some ad) (hlO C h1),.v (.lst [ddD (a,b,w)]),.un,.un,.un]=some (.nx [.o (some ad) (hlO C h2),.v (.lst [ddD (a,b,w)]),.v (.int a),.v (.int b),.v (.str w)]):=(zB1 rfl t1).trans rfl
 have e:zBY C [.o (some ad) (hlO C h1),.v (.lst [ddD (a,b,w)]),.un,.un,.un]=some (.rm (.bl true) [.o (some ad) (hlO C h2),.v (.lst [ddD (a,b,w)]),.v (.int a),.v (.int b),.v (.str w)]):=(zm ((zAS (ds:=[ddD (a,b,w)]) rfl).trans f)).trans rfl
 show (zBY C [.o (some ad) (hlO C h1),.v (.lst [ddD (a,b,w)]),.un,.un,.un]).bind (zRy ad)=_
 rw [e]
 simp only [zUw,zRy,zA3,zVS,zVp,zVG]
theorem zNi {w:Str} {y:Int}:∀ {ch:List (Str×Int)},ya (ch.map (·.1))->(w,y)∈ch->ch.find? (λq=>decide (q.1=w))=some (w,y)
 | [],_,h=>nomatch h
 |q::ch,r,h=>by
  rw [zUx] at r
  obtain ⟨r1,r2⟩:=zVI.mp r
  rw [zVU]
  rcases zU1.mp h with rfl|h
  ·simp
  ·have:q.1≠w:=(r1 w (zVT.mpr ⟨_,h,rfl⟩)).ne
   simp only [this,zV2]
   exact zNi r2 h
theorem turn {m:Int} {ps:List Pl} (hd:ym m ps) (hf:Few ps) {k:Nat} {h:Hl} (H:HOk k h) (hk:k<=900) (hm:h.P.length=m.toNat) {x:Int} (x0:0<=x) (S:∀ i:Nat,(i:Int)<m->Kn ps h x i) (R:∀ a b,qG h a b = []) {a b y:Int} {ch:List (Str×Int)} {w:Str} (hp:ps[x.toNat]?=some (.tell a b ch)) (hw:(w,y)∈ch)
  (C:Addr) (ds:List (Int×Int×Str)) (hl:ds.length<=1000) (s0 s3 s7 s8 s9 s10 s11 s12:Sl) :
  ∃ h2,HOk (k+2) h2/\h2.P.length=m.toNat/\h2.past=h.past++tw (a,b,w)/\(∀ i:Nat,(i:Int)<m->Kn ps h2 y i)/\(∀ a b,qG h2 a b = []) /\
   zJG C [s0,.v (dnD m ps),.o none (hlO C h),s3,.v (.int x),.l (ds.map ddD),.v (.str w),s7,s8,s9,s10,s11,s12] =
    some (.nx [s0,.v (dnD m ps),.o none (hlO C h2),s3,.v (.int y),.l ((ds ++ [(a,b,w)]).map ddD),.v (.str w),.v (.str "tell"),.v (.int a),.v (.int b),.v (.tup (ch.map chD)),s11,s12]):=by
 obtain ⟨h1,h2,v1,v2,H1,H2,d1,d2,q1,q2,q3,q4⟩:=zUl hd hf H hk hm S R hp hw
 refine ⟨h2,H2,q1,q2,q3,q4,?_⟩
 have ok:=hd.ok _ (zVF hp)
 have x1:x<(ps.length:Int):=by have:=(zU7.mp hp).1;omega
 obtain ⟨p,_,e1,e2⟩:=zMw x0 x1
 rw [hp] at e1;cases e1
 have e0:ixO (dnD m ps) (.int 1)=some (.tup (ps.map plD)):=by simp only [dnD,ixO,at1]
 have e5:ixO (.tup (ps.map plD)) (.int x)=some (plD (.tell a b ch)):=e2
 have e6:zHm (.tup (ch.map chD))=some (ch.map kv):=zNQ ok.rs (by have:=ok.l1;omega)
 have e7:zC2 (ch.map kv) (.inr w)=some (.int y):=by rw [zNR,zNi ok.rs hw];rfl
 have t6:dIx (gV 10) (gV 6) [s0,.v (dnD m ps),.o none (hlO C h2),s3,.v (.int x),.l (ds.map ddD ++ [ddD (a,b,w)]),.v (.str w),.v (.str "tell"),.v (.int a),.v (.int b),.v (.tup (ch.map chD)),s11,s12]=some (.int y):=by
  show (zHm (.tup (ch.map chD))).bind _=_
  rw [e6]
  exact e7
 rw [zVK,zUx,zV7]
 exact (zm (zQM (zB5 (zB5 rfl rfl e0) rfl e5) rfl)).trans ((zm (zNh (zJL (zB5 (a:=mvD ⟨true,a,b,w⟩) rfl (zAA rfl (zG7 C h) rfl (zSb H C)) (zQZ v1))) rfl)).trans
  ((zm (zEN (ds:=[mvD ⟨true,a,b,w⟩]) rfl (zUZ C h) rfl (d1 C))).trans ((zm ((zPl (ds:=[.lst [ddD (a,b,w)]]) rfl rfl (heard H1 v2 C (d2 C))).trans rfl)).trans
  ((zm (zQa (xs:=ds.map ddD) (d:=ddD (a,b,w)) rfl (by rw [zU4];omega) rfl)).trans (zBP t6)))))
theorem zIJ {m:Int} {ps:List Pl} (hd:ym m ps) (hf:Few ps) (C:Addr) (s0 s3 s11 s12:Sl):∀ (ws:List Str) {x y:Int} {k:Nat} {h:Hl} {ds:List (Int×Int×Str)} (s6 s7 s8 s9 s10:Sl),Way ps x ws y->0<=x->HOk k h->k+2*ws.length<=900->ds.length+ws.length<=1000->h.P.length=m.toNat->(∀ i:Nat,(i:Int)<m->Kn ps h x i)->(∀ a b,qG h a b = [])->h.past=ds.flatMap tw ->
  ∃ (k':Nat) (h':Hl) (ds':List (Int×Int×Str)) (s6' s7' s8' s9' s10':Sl),HOk k' h'/\k'<=1000/\ds'.length<=1000/\h'.past=ds'.flatMap tw/\(∀ a b,qG h' a b = []) /\
   zc (gN 6) (zJG C) (ws.map D.str) [s0,.v (dnD m ps),.o none (hlO C h),s3,.v (.int x),.l (ds.map ddD),s6,s7,s8,s9,s10,s11,s12]=some (.nx [s0,.v (dnD m ps),.o none (hlO C h'),s3,.v (.int y),.l (ds'.map ddD),s6',s7',s8',s9',s10',s11,s12])
 |[],x,y,k,h,ds,s6,s7,s8,s9,s10,W,x0,H,hk,hl,hm,S,R,E=>by
  cases W
  exact ⟨k,h,ds,s6,s7,s8,s9,s10,H,by omega,by omega,E,R,rfl⟩
 |w::ws,x,y,k,h,ds,s6,s7,s8,s9,s10,W,x0,H,hk,hl,hm,S,R,E=>by
  obtain ⟨a,b,ch,z,hp,hw,W⟩:=W
  rw [zUv] at hk hl
  obtain ⟨h2,H2,q1,q2,q3,q4,e⟩:=turn hd hf H (by omega) hm x0 S R hp hw C ds (by omega) s0 s3 s7 s8 s9 s10 s11 s12
  have z0:=((hd.ok _ (zVF hp)).nx _ hw).1
  obtain ⟨k',h',ds',t6,t7,t8,t9,t10,H',g1,g2,g3,g4,e'⟩:=zIJ hd hf C s0 s3 s11 s12 ws (ds:=ds ++ [(a,b,w)]) (.v (.str w)) _ _ _ _ W z0 H2 (by omega) (by rw [zU9,zVY];omega) q1 q3 q4 (by rw [q2,E,zXO];simp [tw])
  exact ⟨k',h',ds',t6,t7,t8,t9,t10,H',g1,g2,g3,g4,(zB1 rfl e).trans e'⟩
def own (d:Int) (v:Mv):Bool:=if v.t then decide (v.a=d) else decide (v.b=d)
def due (d:Int) (q:Int×Int×Str):List Mv:=(if q.1=d then [⟨true,q.1,q.2.1,q.2.2⟩] else [])++(if q.2.1=d then [⟨false,q.1,q.2.1,q.2.2⟩] else [])
theorem zNj (a b:Int):eqO (.int a) (.int b)=some (.bl (decide (a=b))):=by
 unfold eqO;rw [zVE (by simp [dep])];unfold eqD;rw [zDn]
theorem zK5 (d:Int) (v:Mv) (acc:List D) (hl:acc.length<16000000) (s1:Sl):qU [.v (.int d),s1,.l acc,.v (.str (zBm v.t)),.v (.int v.a),.v (.int v.b),.v (.str v.w)]=some (.nx [.v (.int d),s1,.l (acc++(if own d v=true then [mvD v] else [])),.v (.str (zBm v.t)),.v (.int v.a),.v (.int v.b),.v (.str v.w)]):=by
 obtain ⟨t,a,b,w⟩:=v
 have k1:=zFG (zBm t) "tell"
 have k2:=zFG (zBm t) "hear"
 have i1:=zNj a d
 have i2:=zNj b d
 have z1:((Str.ofString "hear" : Str) == Str.ofString "tell")=false:=by decide +kernel
 have z2:((Str.ofString "tell" : Str) == Str.ofString "hear")=false:=by decide +kernel
 cases t with
 |true=>
  simp only [zBm,zVp,zVJ,z2] at k1 k2
  by_cases c:a=d<;>simp only [c,zW6,zV2] at i1<;>
   exists qU,zBm,own,mvD,k1,k2,i1,c,hl,zVZ,eqD,eqL,zP,gN,gT,gCs,gNl,zo,zc,neO,dep
 |false=>
  simp only [zBm,zVu,zV8,zVJ,z1] at k1 k2
  by_cases c:b=d<;>simp only [c,zW6,zV2] at i2<;>
   exists qU,zBm,own,mvD,k1,k2,i2,c,hl,zVZ,eqD,eqL,zP,gN,gT,gCs,gNl,zo,zc,neO,dep
theorem zGG (d:Int) (s1:Sl):∀ (l:List Mv) (acc:List D) (s3 s4 s5 s6:Sl),acc.length+l.length<=10000->∃ s3' s4' s5' s6',zc (gT 4 (gCs (gN 3) (gCs (gN 4) (gCs (gN 5) (gCs (gN 6) gNl))))) qU (l.map mvD) [.v (.int d),s1,.l acc,s3,s4,s5,s6]=some (.nx [.v (.int d),s1,.l (acc++(l.filter (own d)).map mvD),s3',s4',s5',s6'])
 | [],acc,s3,s4,s5,s6,_=>⟨s3,s4,s5,s6,by simp [zc]⟩
 |v::l,acc,s3,s4,s5,s6,hl=>by
  rw [zUv] at hl
  have t:=zK5 d v acc (by omega) s1
  obtain ⟨a3,a4,a5,a6,e⟩:=zGG d s1 l (acc++(if own d v=true then [mvD v] else [])) (.v (.str (zBm v.t))) (.v (.int v.a)) (.v (.int v.b)) (.v (.str v.w)) (by rw [zU9];split<;>simp<;>omega)
  refine ⟨a3,a4,a5,a6,?_⟩
  rw [zUx,zB1 rfl t,e,List.filter_cons,zVr]
  split<;>simp
theorem zPm (d:Int) (l:List Mv) (hl:l.length<=9000):zBW [.int d,.tup (l.map mvD)]=some (.lst ((l.filter (own d)).map mvD)):=by
 obtain ⟨a3,a4,a5,a6,e⟩:=zGG d (.v (.tup (l.map mvD))) l [] .un .un .un .un (by simp;omega)
 show (zBV [.v (.int d),.v (.tup (l.map mvD)),.un,.un,.un,.un,.un]).bind _=_
 have:zBV [.v (.int d),.v (.tup (l.map mvD)),.un,.un,.un,.un,.un]=some (.rt (.lst ((l.filter (own d)).map mvD))):=
  (zm (ρ':=[.v (.int d),.v (.tup (l.map mvD)),.l [],.un,.un,.un,.un]) rfl).trans ((zm ((zAS (ds:=l.map mvD) rfl).trans e)).trans rfl)
 rw [this];rfl
theorem zQb (d:Int):∀ ds:List (Int×Int×Str),(ds.flatMap tw).filter (own d)=ds.flatMap (due d)
 | []=>rfl
 |q::ds=>by
  rw [zVX,zVX,List.filter_append,zQb d ds]
  congr 1
  obtain ⟨a,b,w⟩:=q
  by_cases c:a=d<;>by_cases c':b=d<;>simp [tw,own,due,List.filter_cons,c,c']
theorem zQc {i:Nat} {a d:Int} {xs:List D} {t:D} {T:ROd} {ρ:Rho} (h1:zLH ρ i=some (.int a)) (h2:zLH ρ 11=some (.int d)) (h3:gL ρ 12=some xs) (h4:xs.length<16000000) (h5:T ρ=some t) (h6:ρ[12]?=some (.l xs)) :
  sIf (bB (b2 (gR i) (gR 11) eqO)) (zFV 12 T) (λρ=>some (Out.nx ρ)) ρ=some (.nx (ρ.set 12 (.l (xs++if a=d then [t] else [])))):=by
 have e:=zNj a d
 by_cases c:a=d
 ·rw [zVz c] at e
  rw [zVE c]
  exact zPJ (zJL (zB5 h1 h2 e)) (zQa h3 h4 h5)
 ·rw [zVh c] at e
  rw [zVe c,zVZ]
  refine zNh (zJL (zB5 h1 h2 e)) ?_
  obtain ⟨hlt,he⟩:=zU7.mp h6
  rw [<- he,List.set_getElem_self]
theorem zKV (C:Addr) (d:Int) (s0 s1 s2 s3 s4 s5 s7 s10:Sl):∀ (ds:List (Int×Int×Str)) (acc:List Mv) (s6 s8 s9:Sl),acc.length+2*ds.length<=10000->∃ s6' s8' s9',zc (gT 3 (gCs (gN 8) (gCs (gN 9) (gCs (gN 6) gNl)))) (zJH C) (ds.map ddD) [s0,s1,s2,s3,s4,s5,s6,s7,s8,s9,s10,.v (.int d),.l (acc.map mvD)]=some (.nx [s0,s1,s2,s3,s4,s5,s6',s7,s8',s9',s10,.v (.int d),.l ((acc++ds.flatMap (due d)).map mvD)])
 | [],acc,s6,s8,s9,_=>⟨s6,s8,s9,by simp [zc]⟩
 |q::ds,acc,s6,s8,s9,hl=>by
  obtain ⟨a,b,w⟩:=q
  rw [zUv] at hl
  have t1:=zQc (i:=8) (a:=a) (d:=d) (xs:=acc.map mvD) (t:=mvD ⟨true,a,b,w⟩) (T:=λρ=>((zB (λ_=>some (D.str "tell")) (zB (gV 8) (zB (gV 9) (zB (gV 6) zO)))) ρ).map D.tup) (ρ:=[s0,s1,s2,s3,s4,s5,.v (.str w),s7,.v (.int a),.v (.int b),s10,.v (.int d),.l (acc.map mvD)]) rfl rfl rfl (by rw [zU4];omega) rfl rfl
  have t2:=zQc (i:=9) (a:=b) (d:=d) (xs:=acc.map mvD++if a=d then [mvD ⟨true,a,b,w⟩] else []) (t:=mvD ⟨false,a,b,w⟩) (T:=λρ=>((zB (λ_=>some (D.str "hear")) (zB (gV 8) (zB (gV 9) (zB (gV 6) zO)))) ρ).map D.tup) (ρ:=[s0,s1,s2,s3,s4,s5,.v (.str w),s7,.v (.int a),.v (.int b),s10,.v (.int d),.l (acc.map mvD++if a=d then [mvD ⟨true,a,b,w⟩] else [])]) rfl rfl rfl (by rw [zU9,zU4];split<;>simp<;>omega) rfl rfl
  have ea:acc.map mvD++(if a=d then [mvD ⟨true,a,b,w⟩] else [])++(if b=d then [mvD ⟨false,a,b,w⟩] else [])=(acc++due d (a,b,w)).map mvD:=by
   unfold due;by_cases c:a=d<;>by_cases c':b=d<;>simp [c,c']
  have t:zJH C [s0,s1,s2,s3,s4,s5,.v (.str w),s7,.v (.int a),.v (.int b),s10,.v (.int d),.l (acc.map mvD)]=some (.nx [s0,s1,s2,s3,s4,s5,.v (.str w),s7,.v (.int a),.v (.int b),s10,.v (.int d),.l ((acc++due d (a,b,w)).map mvD)]):=by
   rw [<- ea];exact (zm t1).trans t2
  obtain ⟨a6,a8,a9,e⟩:=zKV C d s0 s1 s2 s3 s4 s5 s7 s10 ds (acc++due d (a,b,w)) (.v (.str w)) (.v (.int a)) (.v (.int b)) (by rw [zU9];unfold due;split<;>split<;>simp<;>omega)
  refine ⟨a6,a8,a9,?_⟩
  rw [zUx,zB1 rfl t,e,zVX,zVr]
theorem zUn (l:List Mv):neO (.lst (l.map mvD)) (.lst (l.map mvD))=some (.bl false):=by
 have dp:depL (l.map mvD)<=2:=by
  induction l with
  |nil=>simp [depL]
  |cons v l ih=>simp only [zUx,depL,mvD,dep];omega
 have el:eqL (l.map mvD) (l.map mvD)=true:=by
  induction l with
  |nil=>simp [eqL]
  |cons v l ih=>
   have dp':depL (l.map mvD)<=2:=by simp only [zUx,depL] at dp;omega
   simp only [zUx,eqL,zUc,zW6,ih dp',Bool.and_self]
 unfold neO
 rw [zVE (by simp only [dep];omega)]
 unfold eqD
 rw [el];rfl
theorem zNk {k:Nat} {h:Hl} (H:HOk k h) (hk:k<=1000) (C:Addr) {ds:List (Int×Int×Str)} (hl:ds.length<=1000) (E:h.past=ds.flatMap tw) (d:Int) (s0 s1 s3 s4 s6 s7 s8 s9 s10 s12:Sl) :
  ∃ s6' s8' s9' s12',zJI C [s0,s1,.o none (hlO C h),s3,s4,.v (.lst (ds.map ddD)),s6,s7,s8,s9,s10,.v (.int d),s12]=some (.nx [s0,s1,.o none (hlO C h),s3,s4,.v (.lst (ds.map ddD)),s6',s7,s8',s9',s10,.v (.int d),s12']):=by
 obtain ⟨a6,a8,a9,e⟩:=zKV C d s0 s1 (.o none (hlO C h)) s3 s4 (.v (.lst (ds.map ddD))) s7 s10 ds [] s6 s8 s9 (by simp;omega)
 have pl:=H.pl
 have md:=zPm d h.past (by omega)
 rw [E,zQb,<- E] at md
 refine ⟨a6,a8,a9,.l (([]++ds.flatMap (due d)).map mvD),?_⟩
 refine (zm (ρ':=[s0,s1,.o none (hlO C h),s3,s4,.v (.lst (ds.map ddD)),s6,s7,s8,s9,s10,.v (.int d),.l (([]:List Mv).map mvD)]) rfl).trans ((zm ((zAS (ds:=ds.map ddD) rfl).trans e)).trans (zNh (zJL (zB5 (a:=.lst ((ds.flatMap (due d)).map mvD)) (b:=.lst ((ds.flatMap (due d)).map mvD)) ?_ rfl (zUn _))) rfl))
 have z:qz C "done" 2 zO (zIA C) [s0,s1,.o none (hlO C h),s3,s4,.v (.lst (ds.map ddD)),a6,s7,a8,a9,s10,.v (.int d),.l (([]++ds.flatMap (due d)).map mvD)]=some (.tup (h.past.map mvD)):=zAA rfl (zSZ C h) rfl (zPa C h)
 simp only [zB,z,zUw,zVG]
 exact md
theorem zSi (C:Addr) {h:Hl} (R:∀ a b,qG h a b = []) {m:Int} (hm:0<=m/\m<=4) {ps:List Pl} (a:Int) (s0 s3 s4 s5 s6 s7 s9 s10 s11 s12:Sl) :
  zJK C [s0,.v (dnD m ps),.o none (hlO C h),s3,s4,s5,s6,s7,.v (.int a),s9,s10,s11,s12]=some (.nx [s0,.v (dnD m ps),.o none (hlO C h),s3,s4,s5,s6,s7,.v (.int a),s9,s10,s11,s12]):=by
 have e0:ixO (dnD m ps) (.int 0)=some (.int m):=by simp only [dnD,ixO,at0]
 have rg:iR1 (zB (b2 (gR 1) (zR 0) ixO) zO) [s0,.v (dnD m ps),.o none (hlO C h),s3,s4,s5,s6,s7,.v (.int a),s9,s10,s11,s12]=some (rng 0 m.toNat):=by
  refine zF7 ?_ (by omega)
  rw [show ((m.toNat:Nat):Int)=m by omega]
  have:b2 (gR 1) (zR 0) ixO [s0,.v (dnD m ps),.o none (hlO C h),s3,s4,s5,s6,s7,.v (.int a),s9,s10,s11,s12]=some (.int m):=zB5 rfl rfl e0
  simp only [zB,this,zUw,zVG]
 have cp:=yI (g:=gN 13) (p:=zJJ C) (f:=zNd C) (emb:=λ(i:Nat)=>D.int (0+(i:Int))) (ρ:=[s0,.v (dnD m ps),.o none (hlO C h),s3,s4,s5,s6,s7,.v (.int a),s9,s10,s11,s12,.un]) (λ_=>false) (λi=>D.int i) (List.range m.toNat) λi _=>by
  refine ⟨[s0,.v (dnD m ps),.o none (hlO C h),s3,s4,s5,s6,s7,.v (.int a),s9,s10,s11,s12,.v (.int (0+(i:Int)))],rfl,?_,λz=>nomatch z⟩
  have rw1:b2 (qz C "row" 2 (zB (gV 8) (zB (gV 13) zO)) (zG3 C)) (λρ=>(zO ρ).map D.tup) neO [s0,.v (dnD m ps),.o none (hlO C h),s3,s4,s5,s6,s7,.v (.int a),s9,s10,s11,s12,.v (.int (0+(i:Int)))]=some (.bl false):=
   zB5 (zAA rfl (zQT C h) rfl (zNT C h a (0+i))) rfl (by rw [R];rfl)
  have q:=zJL rw1
  unfold zJJ zRG
  have dn:neO (.int a) (.int (0+(i:Int)))=some (.bl (!decide (a=0+(i:Int)))):=by
   unfold neO;rw [zVE (by simp [dep])];unfold eqD;rw [zDn]
  have q0:bB (b2 (gR 8) (gR 13) neO) [s0,.v (dnD m ps),.o none (hlO C h),s3,s4,s5,s6,s7,.v (.int a),s9,s10,s11,s12,.v (.int (0+(i:Int)))]=some (!decide (a=0+(i:Int))):=zJL (zB5 rfl rfl dn)
  rw [q0,zUw]
  cases (!decide (a=0+(i:Int))) with
  |true=>exact q
  |false=>rfl
 rw [show (List.range m.toNat).filter (λ_=>false) = [] by simp,zV7] at cp
 refine zNh ?_ rfl
 unfold zLI zK
 dsimp only
 rw [rg,zUw,zVE (by rw [zI8];omega)]
 exact zVw (λr=>(Option.map D.lst r).bind truD) cp
theorem zNl (e h:Int):∀ (ps:List Pl) (k:Nat) (p:Pl),qV e h ((ps.set k p).map plD)<=qV e h (ps.map plD)+(chs p).length
 | [],k,p=>by simp [qV]
 |q::ps,0,p=>by
  rw [zWP,zUx,zUx,qV,qV]
  have:zMq e h (plD p)<=(chs p).length:=by
   cases p with
   |fin=>simp [plD,zMq]
   |tell a b ch=>
    simp only [plD,zMq,chs,zU4]
    have:=zIv e h a b
    exact zVb (Nat.mul_le_mul_left _ this) (by omega)
  omega
 |q::ps,k+1,p=>by
  have:=zNl e h ps k p
  rw [zXR,zUx,zUx,qV,qV]
  omega
theorem ends {m:Int} {ps:List Pl} (hd:ym m ps) {k:Nat} {h:Hl} (H:HOk k h) (hk:k<=1000) (C:Addr) {ds:List (Int×Int×Str)} (hl:ds.length<=1000) (E:h.past=ds.flatMap tw) (R:∀ a b,qG h a b = []) (s0 s3 s4 s6 s7 s8 s9 s10 s11 s12:Sl) :
  zNe C [s0,.v (dnD m ps),.o none (hlO C h),s3,s4,.v (.lst (ds.map ddD)),s6,s7,s8,s9,s10,s11,s12]=some (.rt (.bl true)):=by
 have hm0:=hd.m0
 have hm1:=hd.m1
 have rg:∀ ρ:Rho,ρ[1]?=some (.v (dnD m ps))->iR1 (zB (b2 (gR 1) (zR 0) ixO) zO) ρ=some (rng 0 m.toNat):=λρ q=>by
  refine zF7 ?_ (by omega)
  rw [show ((m.toNat:Nat):Int)=m by omega]
  have:b2 (gR 1) (zR 0) ixO ρ=some (.int m):=zB5 (a:=dnD m ps) (by simp only [zLH,q]) rfl (by simp only [dnD,ixO,at0])
  simp only [zB,this,zUw,zVG]
 obtain ⟨ρ2,e2,t6,t8,t9,t11,t12,rfl⟩:=zGp (g:=gN 11) (F:=zJI C) (λρ=>∃ s6 s8 s9 s11 s12,ρ = [s0,.v (dnD m ps),.o none (hlO C h),s3,s4,.v (.lst (ds.map ddD)),s6,s7,s8,s9,s10,s11,s12]) (ds:=rng 0 m.toNat) (by
  intro x hx ρ hI
  obtain ⟨i,hi,rfl⟩:=zVT.mp hx
  obtain ⟨u6,u8,u9,u11,u12,rfl⟩:=hI
  obtain ⟨v6,v8,v9,v12,e'⟩:=zNk H hk C hl E (0+(i:Int)) s0 (.v (dnD m ps)) s3 s4 u6 s7 u8 u9 s10 u12
  exact ⟨_,e',_,_,_,_,_,rfl⟩) ⟨s6,s8,s9,s11,s12,rfl⟩
 obtain ⟨ρ3,e3,_⟩:=zGp (g:=gN 8) (F:=zJK C) (λρ=>∃ s8,ρ = [s0,.v (dnD m ps),.o none (hlO C h),s3,s4,.v (.lst (ds.map ddD)),t6,s7,s8,t9,s10,t11,t12]) (ds:=rng 0 m.toNat) (by
  intro x hx ρ hI
  obtain ⟨i,hi,rfl⟩:=zVT.mp hx
  obtain ⟨u8,rfl⟩:=hI
  exact ⟨_,zSi C R ⟨by omega,hm1⟩ (0+(i:Int)) _ _ _ _ _ _ _ _ _ _,_,rfl⟩) ⟨t8,rfl⟩
 exact (zm ((zAS (rg _ rfl)).trans e2)).trans ((zm ((zAS (rg _ rfl)).trans e3)).trans rfl)
abbrev U9:Rho:=[.un,.un,.un,.un,.un,.un,.un,.un,.un]
theorem rest {m:Int} {ps:List Pl} (hd:ym m ps) (hf:Few ps) (C:Addr) (ns:List Int) (hn:ns.length<=63):zKU C (.v (.lst (ns.map D.int)) :: .v (dnD m ps) :: .un :: .un::U9)=some (.rt (.bl true)):=by
 rcases zPg hd hf C with e|⟨P,hP,e⟩
 ·exact (zm (zG2 (ds:=[dnD m ps]) rfl e)).trans (zUC rfl)
 ·obtain ⟨H0,lP⟩:=zPe hd hf hP
  obtain ⟨ws,y,wl,W,ew⟩:=zUm hd ns hn
  obtain ⟨k,h,ds,s6,s7,s8,s9,s10,H,hk,hl,E,R,ef⟩:=zIJ hd hf C (.v (.lst (ns.map D.int))) (.v (.tup (ws.map D.str))) .un .un ws (ds:=[]) .un .un .un .un .un W (by decide) H0 (by omega) (by simp;omega) lP (λi hi=>Kn.zero hd hP hi) (λa b=>by simp [zCO,qG]) rfl
  have r9:zNf C (.v (.lst (ns.map D.int)) :: .v (dnD m ps) :: .o none (hlO C (zCO P)) :: .v (.tup (ws.map D.str))::U9)=some (.rt (.bl true)):=
   (zm rfl).trans ((zm rfl).trans ((zm ((zAS (ds:=ws.map D.str) rfl).trans ef)).trans (ends hd H hk C hl E R ..)))
  have r10:zKT C (.v (.lst (ns.map D.int)) :: .v (dnD m ps) :: .o none (hlO C (zCO P)) :: .un::U9)=some (.rt (.bl true)):=(zm (zBP ew)).trans r9
  exact (zm (zG2 (ds:=[dnD m ps]) rfl e)).trans ((zm rfl).trans r10)
theorem law_is (C:Addr) (ns:List Int) (hn:ns.length<=63):m_law C [.lst (ns.map D.int)]=some (.bl true):=by
 obtain ⟨m,ps0,e1,h0,_,c0⟩:=zPE ns
 have k4:z7 [.lst (ns.map D.int),.int 4]=some (.int (ns.getD 4 0)):=zMl (by decide)
 have s1:qI 1 (λρ=>((zB (gV 0) zO) ρ).bind qa) (.v (.lst (ns.map D.int)) :: .un :: .un :: .un::U9)=some (.nx (.v (.lst (ns.map D.int)) :: .v (dnD m ps0) :: .un :: .un::U9)):=(zBP e1).trans rfl
 show (zPh C (.v (.lst (ns.map D.int)) :: .un :: .un :: .un::U9)).bind _=_
 unfold zPh
 rw [zm s1]
 by_cases ev:ns.getD 4 0%3=0
 ·obtain ⟨ps,h,_,⟨k,p,rfl,hp⟩,e5⟩:=zM1 h0 (ns.getD 4 0/3)
  have hf:Few (ps0.set k p):=λe h=>zVb (zNl e h ps0 k p) (by have:=c0 e h;omega)
  rw [zm (ρ':=(.v (.lst (ns.map D.int)) :: .v (dnD m (ps0.set k p)) :: .un :: .un::U9)),rest h hf C ns hn]
  ·rfl
  ·exists 0,k4,ev,e5,zVJ,Int.reduceBEq,ixO
 ·have hf:Few ps0:=λe h=>zVb (c0 e h) (by decide)
  have ev':(ns.getD 4 0%3 == 0)=false:=zVd.mpr ev
  rw [zm (ρ':=(.v (.lst (ns.map D.int)) :: .v (dnD m ps0) :: .un :: .un::U9)),rest h0 hf C ns hn]
  ·rfl
  ·exists 0,k4,ev',zVJ,Int.reduceBEq,ixO
end K08
namespace K08
open PySem PySem.Spec PyProof.Rows L2 RD LG
local macro_rules|`(⋯)=>`(by kernel_rfl)
local macro_rules|`(∅)=>`($(Lean.mkIdent `hr).mono (by decide))
local macro_rules|`(tactic|left)=>`(tactic|kernel_rfl)
local macro_rules|`(tactic|right)=>`(tactic|exact ⟨rfl,rfl,rfl,by decide +kernel,rfl,by decide +kernel,by decide +kernel⟩)
structure Cl (K:Fg) (mg:MGt) (C:Addr) (κ:Nat->Addr):Prop where
 hK:Cls K C
 hA_parts:qH K C "parts"
 hA_at:qH K C "at"
 hA_rows:qH K C "rows"
 hA_past:qH K C "past"
 hE_NoPart:zRZ K (κ 0)
 hM_NoPart:mg "NoPart" = some (.ref (κ 0))
section
variable {P:Program} {w:World} {K:Fg} {mg:MGt} {base:Heap} {κ:Nat->Addr} {C:Addr}
abbrev TD (P:Program) (w:World) (K:Fg) (mg:MGt) (base:Heap) (k:Nat) (N:List Str) (q:Str) (st:Stmt) (F:ROo):Prop:=∀ {fa:Addr} (cdv:Value) (A:Around) (outer:List Env) (s:Shared) (H:Hp),zAB k (A.deeper (envOfC q (zI st) s.heap.objs.size fa cdv))->SSs (zFS CX0 P w K mg base N q (zI st) fa cdv A outer s H E0).nox (z8 st) F
abbrev TX (P:Program) (w:World) (K:Fg) (mg:MGt) (base:Heap) (κ:Nat->Addr) (k:Nat) (N:List Str) (q:Str) (st:Stmt) (F:Rho->Option zAp):Prop:=∀ {fa:Addr} (cdv:Value) (A:Around) (outer:List Env) (s:Shared) (H:Hp) (E:XK),zAB k (A.deeper (envOfC q (zI st) s.heap.objs.size fa cdv))->SXs (cxE P w K mg base N q (zI st) fa cdv A outer s H E) κ E (z8 st) F
theorem zK6:zV zEy ["_law_cell_here","_law_prime","_law_many"] (zI zEO):=by right
theorem zNm  (hT:Bl mg) (hCl:Cl K mg C κ):TD P w K mg base 0 zEy "_law_mix" zEO zEz:=by
 intro fa cdv A outer s H hr
 exact (zL (zw (zb qt (zE (zb qt (zE (zb zCg (zC 0 (pv 0)) (zE zF))) (zC 1 (pv 1)))) (zC 2 (pv 2)))))
theorem zJM:zV zDf ["_law_script","_law_k"] (zI zDL):=by right
theorem zK7  (hT:Bl mg) (hCl:Cl K mg C κ):TD P w K mg base 0 zDf "_law_cell" zDL zCJ:=by
 intro fa cdv A outer s H hr
 exact (zH (yz (yG (zP8) (zC 1 (pv 1)) (zE (yC zy (gl ⋯) hT.len zVj (zC 0 (pv 0)))) (zr _)) (zL (zw (zX (zC 0 (pv 0)) (zC 1 (pv 1))))) z9) (zL (zw zF)))
theorem zFd:zV zBN ["_law_cell_here","_law_many"] (zI zBC):=by right
theorem zHA  (hT:Bl mg) (hCl:Cl K mg C κ):TD P w K mg base 0 zBN "_law_is_late" zBC q8:=by
 intro fa cdv A outer s H hr
 have hu:=zHG hr
 exact (zL (zw (zHa (zEb (yW hu) (zE (zb qt (zC 0 (pv 0)) (zE zF))) (zE zF) (zr _)) (zHZ (zEb (zFo) (zC 1 (pv 1)) (zE zF) (zr _))))))
theorem zBf:zV zAP ["_law_start","_law_goals","_law_one","_law_others","_law_words"] (zI zAF):=by right
theorem zFK  (hT:Bl mg) (hCl:Cl K mg C κ):TD P w K mg base 0 zAP "_law_told_late" zAF zBy:=by
 intro fa cdv A outer s H hr
 have hu:=zHG hr
 have hN:=zBf.nd
 exact (zH (qE 5 (yo zG) hN ⋯ (.inl ⋯)) (zH (qE 6 (yo zG) hN ⋯ (.inl ⋯)) (zH (zh 7 (yC zy (gl ⋯) hT.len zVj (zC 3 (pv 3))) hN ⋯ (.inl ⋯)) (zH (qX zVg rfl (zIh (gl ⋯) hT.enumerate (zD 4 (pv 4))) (zAz rfl (zZ (zQ 8 hN ⋯ (.inl ⋯) (.inl rfl)) (zZ (zQ 9 hN ⋯ (.inl ⋯) (.inl rfl)) qY))) (zH (zh 10 (zb zW (zE (zb zW (zC 0 (pv 0)) (zE zF))) (zE (zb zCg (zC 8 (pv 8)) (zC 7 (pv 7))))) hN ⋯ (.inl ⋯)) (zH (yR 6 (pv 6) (zU (zA (zD 9 (pv 9)) (zA (zD 10 (pv 10)) zG)))) (zH (yR 5 (pv 5) (zU (zA zv (zA (zD 2 (pv 2)) (zA (zX (zC 3 (pv 3)) (zE zF)) (zA (zU (zA (zU (zA (zX (zC 4 (pv 4)) (zE zF)) (zA (zb zW (zC 10 (pv 10)) (zE zF)) zG))) zG)) zG)))))) (zL (qX zVg rfl (zL1 (gl ⋯) hT.range (zA zF (zA (zD 7 (pv 7)) zG))) (zQ 11 hN ⋯ (.inl ⋯) (.inl rfl)) (zH (zh 12 (zX (zE (zg (yo (zA (zb zW (zE (zb zW (zC 10 (pv 10)) (zC 11 (pv 11)))) (zE zF)) (zA (zX (zC 1 (pv 1)) (zC 8 (pv 8))) zG))))) (zE (yQ zEf (gl ⋯) hT.int zOR (zE (zEb (yW hu) (zC 11 (pv 11)) (zE (zb zAM (zC 7 (pv 7)) (zE zF))) (zr _)))))) hN ⋯ (.inl ⋯)) (zL (yR 5 (pv 5) (zU (zA zv (zA (zX (zC 3 (pv 3)) (zE zF)) (zA (zX (zC 3 (pv 3)) (zC 11 (pv 11))) (zA (zU (zA (zU (zA (zD 9 (pv 9)) (zA (zD 12 (pv 12)) zG))) zG)) zG)))))))))))))) (zL (zw (zg (zHd (zE (zg (yo (zA (zU (zA zv (zA (zD 2 (pv 2)) (zA (zX (zC 3 (pv 3)) (zE zF)) (zA (yQ yp (gl ⋯) hT.tuple zAO (zC 6 (pv 6))) zG))))) zG)))) (zC 5 (pv 5))))))))))
theorem zFL:zV zDg ["_law_cell_here","_law_j"] (zI zDM):=by right
theorem zK8 (h_law_mix:yA P w K mg base 1 "_law_mix" 3 zT) (hT:Bl mg) (hCl:Cl K mg C κ):TD P w K mg base 1 zDg "_law_word" zDM zDh:=by
 intro fa cdv A outer s H hr
 have hN:=zFL.nd
 exact (zH (zh 2 zv hN ⋯ (.inr ⋯)) (zH (zh 3 (zX (zC 2 (pv 2)) (zE (zb qt (zE (zb zW (zE (zM h_law_mix ∅ ⋯ rfl (zA (zD 0 (pv 0)) (zA zF (zA zF zG))))) (zE (zb zCg (zE zF) (zC 1 (pv 1)))))) (zE zF)))) hN ⋯ (.inl ⋯)) (zH (zh 4 (zRP (zE (zg (qv (nm:=["_law_k"]) (m:=1) rfl rfl ⋯ ⋯ (yZ (gl ⋯) hT.range (zA (zM h_law_mix ∅ ⋯ rfl (zA (zD 0 (pv 0)) (zA zF (zA zF zG)))) zG)) (yH (show 6<=6 by decide)) (λC s₃ H₃ ex=>(zQ 6 (yi (nm:=["_law_k"]) ⋯) ⋯ (.inl ⋯) (.inr ⋯))) (λC s₃ H₃ ex=>.inl ⟨rfl,rfl⟩) (λC s₃ H₃ ex=>(zX (zC 2 (pv 2)) (zE (zM h_law_mix ∅ ⋯ rfl (zA (zb zW (zC 0 (pv 0)) (zE (zb zCg (zE zF) (zC 6 (pv 6))))) (zA zF (zA zF zG))))))))))) hN ⋯ (.inl ⋯)) (zH (zh 5 (zM h_law_mix ∅ ⋯ rfl (zA (zD 0 (pv 0)) (zA zF (zA (zb zW (zE (yC zy (gl ⋯) hT.len zVj (zC 4 (pv 4)))) (zE zF)) zG)))) hN ⋯ (.inl ⋯)) (zL (zw (zb zW (zE (zb zW (zE (qC (zC 4 (pv 4)) qu (qO (zD 5 (pv 5))))) (zC 3 (pv 3)))) (zE (qC (zC 4 (pv 4)) (qO (zD 5 (pv 5))) qu)))))))))
theorem zCX:zV yt ["_law_cell_here","_law_start","_law_many","_law_goals"] (zI zBD):=by right
theorem zHB (h_law_mix:yA P w K mg base 1 "_law_mix" 3 zT) (h_law_is_late:yA P w K mg base 1 "_law_is_late" 2 yS) (h_law_told_late:yA P w K mg base 1 "_law_told_late" 5 zk) (h_law_word:yA P w K mg base 2 "_law_word" 2 yM) (hT:Bl mg) (hCl:Cl K mg C κ):TD P w K mg base 2 yt "_law_told_on" zBD zDA:=by
 intro fa cdv A outer s H hr
 have hN:=zCX.nd
 exact (zH (zh 4 (zM h_law_mix ∅ ⋯ rfl (zA (zD 0 (pv 0)) (zA zF (zA (zD 2 (pv 2)) zG)))) hN ⋯ (.inr ⋯)) (zH (zDe 5 (nm:=["_law_k"]) (m:=1) rfl rfl ⋯ ⋯ (yZ (gl ⋯) hT.range (zA (zb zAM (zC 2 (pv 2)) (zE zF)) zG)) (yH (show 13<=13 by decide)) (λC s₃ H₃ ex=>(zQ 13 (yi (nm:=["_law_k"]) ⋯) ⋯ (.inl ⋯) (.inr ⋯))) (λC s₃ H₃ ex=>.inl ⟨rfl,rfl⟩) (λC s₃ H₃ ex=>(zb qt (zE (zb zW (zE (zb zW (zC 4 (pv 4)) (zE zF))) (zE (zb qt (zE (zb zW (zC 13 (pv 13)) (zE (zM h_law_mix ∅ ⋯ rfl (zA (zD 0 (pv 0)) (zA zF (zA (zb zAM (zC 2 (pv 2)) (zE zF)) zG))))))) (zE (zb zAM (zC 2 (pv 2)) (zE zF))))))) (zC 2 (pv 2)))) hN ⋯ (.inl ⋯)) (zH (zh 6 (zg (zJi zFr (gl ⋯) hT.sorted zEG (zE (zg (qv (nm:=["_law_j"]) (m:=1) rfl rfl ⋯ ⋯ (yZ (gl ⋯) hT.range (zA (zb zW (zE zF) (zE (zM h_law_mix ∅ ⋯ rfl (zA (zD 0 (pv 0)) (zA zF (zA zF zG)))))) zG)) (yH (show 13<=13 by decide)) (λC s₃ H₃ ex=>(zQ 13 (yi (nm:=["_law_j"]) ⋯) ⋯ (.inl ⋯) (.inr ⋯))) (λC s₃ H₃ ex=>.inl ⟨rfl,rfl⟩) (λC s₃ H₃ ex=>(zM h_law_word ∅ ⋯ rfl (zA (zD 0 (pv 0)) (zA (zD 13 (pv 13)) zG))))))))) hN ⋯ (.inl ⋯)) (zH (yz (zEc (zE (zM h_law_is_late ∅ ⋯ rfl (zA (zD 0 (pv 0)) (zA (zD 2 (pv 2)) zG))))) (zL (zw (zM h_law_told_late ∅ ⋯ rfl (zA (zD 1 (pv 1)) (zA (zD 3 (pv 3)) (zA (zD 4 (pv 4)) (zA (zD 5 (pv 5)) (zA (zD 6 (pv 6)) zG)))))))) z9) (zH (qE 7 (yo zG) hN ⋯ (.inl ⋯)) (zH (qE 8 (yo zG) hN ⋯ (.inl ⋯)) (zH (qX zVg rfl (zIh (gl ⋯) hT.enumerate (zD 6 (pv 6))) (zAz rfl (zZ (zQ 9 hN ⋯ (.inr ⋯) (.inl rfl)) (zZ (zQ 10 hN ⋯ (.inl ⋯) (.inl rfl)) qY))) (zH (zh 11 (zg (zHd (zE (zg (qv (nm:=["_law_k"]) (m:=1) rfl rfl ⋯ ⋯ (yZ (gl ⋯) hT.range (zA (zb zAM (zC 2 (pv 2)) (zE zF)) zG)) (yH (show 13<=13 by decide)) (λC s₃ H₃ ex=>(zQ 13 (yi (nm:=["_law_k"]) ⋯) ⋯ (.inl ⋯) (.inr ⋯))) (λC s₃ H₃ ex=>.inl ⟨rfl,rfl⟩) (λC s₃ H₃ ex=>(zb zW (zE (zb zW (zE (zb zW (zC 1 (pv 1)) (zE zF))) (zE (zb zCg (zC 9 (pv 9)) (zE (zb zAM (zC 2 (pv 2)) (zE zF))))))) (zC 13 (pv 13))))))) (zE (zg (yo (zA (zX (zC 3 (pv 3)) (zC 9 (pv 9))) zG)))))) hN ⋯ (.inl ⋯)) (zH (yR 8 (pv 8) (zU (zA (zD 10 (pv 10)) (zA (zX (zC 11 (pv 11)) (zE zF)) zG)))) (zL (qX zVg rfl (yZ (gl ⋯) hT.range (zA (zb zAM (zC 2 (pv 2)) (zE zF)) zG)) (zQ 12 hN ⋯ (.inl ⋯) (.inl rfl)) (zL (yR 7 (pv 7) (zU (zA zv (zA (zD 4 (pv 4)) (zA (zX (zC 5 (pv 5)) (zE (zb zW (zC 12 (pv 12)) (zE zF)))) (zA (zU (zA (zU (zA (zD 10 (pv 10)) (zA (zX (zC 11 (pv 11)) (zE (zb zW (zC 12 (pv 12)) (zE zF)))) zG))) zG)) zG)))))))))))) (zL (zw (zg (zHd (zE (zg (yo (zA (zU (zA zv (zA (zD 4 (pv 4)) (zA (zX (zC 5 (pv 5)) (zE zF)) (zA (yQ yp (gl ⋯) hT.tuple zAO (zC 8 (pv 8))) zG))))) zG)))) (zC 7 (pv 7)))))))))))))
theorem zFM:zV zDi ["_law_cell_here","_law_many"] (zI zDN):=by right
theorem zK9 (h_law_is_late:yA P w K mg base 1 "_law_is_late" 2 yS) (h_law_mix:yA P w K mg base 1 "_law_mix" 3 zT) (hT:Bl mg) (hCl:Cl K mg C κ):TD P w K mg base 1 zDi "_law_size" zDN zDj:=by
 intro fa cdv A outer s H hr
 have hN:=zFM.nd
 exact (zH (zh 2 (zb zW (zE (zb zAM (zC 1 (pv 1)) (zE zF))) (zE (yQ zEf (gl ⋯) hT.int zOR (zE (zM h_law_is_late ∅ ⋯ rfl (zA (zD 0 (pv 0)) (zA (zD 1 (pv 1)) zG))))))) hN ⋯ (.inl ⋯)) (zL (zw (zb zW (zE (zb zW (zE zF) (zE (zb zCg (zE (zb zW (zE zF) (zE (zM h_law_mix ∅ ⋯ rfl (zA (zD 0 (pv 0)) (zA zF (zA zF zG))))))) (zC 2 (pv 2)))))) (zE (yQ zEf (gl ⋯) hT.int zOR (zE (zEb (zFo) (zE (zM h_law_mix ∅ ⋯ rfl (zA (zD 0 (pv 0)) (zA zF (zA zF zG))))) (zE zF) (zr _)))))))))
theorem zBg:zV zAQ ["_law_cell_here","_law_here","_law_many","_law_goal"] (zI zAG):=by right
theorem zFN (h_law_mix:yA P w K mg base 1 "_law_mix" 3 zT) (h_law_word:yA P w K mg base 2 "_law_word" 2 yM) (hT:Bl mg) (hCl:Cl K mg C κ):TD P w K mg base 2 zAQ "_law_apart_two" zAG yq:=by
 intro fa cdv A outer s H hr
 have hu:=zHG hr
 have hN:=zBg.nd
 exact (zH (zh 4 (zM h_law_mix ∅ ⋯ rfl (zA (zD 0 (pv 0)) (zA zF (zA (zD 2 (pv 2)) zG)))) hN ⋯ (.inl ⋯)) (zH (zh 5 (zb qt (zE (zb zW (zE (zb zW (zC 4 (pv 4)) (zE zF))) (zE (zM h_law_mix ∅ ⋯ rfl (zA (zD 0 (pv 0)) (zA zF (zA (zb zAM (zC 2 (pv 2)) (zE zF)) zG))))))) (zC 2 (pv 2))) hN ⋯ (.inl ⋯)) (zH (zh 6 (zg (zJi zFr (gl ⋯) hT.sorted zEG (zE (zg (yo (zA (zM h_law_word ∅ ⋯ rfl (zA (zb zW (zC 0 (pv 0)) (zE zF)) (zA zF zG))) (zA (zM h_law_word ∅ ⋯ rfl (zA (zb zW (zC 0 (pv 0)) (zE zF)) (zA zF zG))) zG))))))) hN ⋯ (.inl ⋯)) (zH (yz (yG (yW hu) (zE (zM h_law_mix ∅ ⋯ rfl (zA (zD 0 (pv 0)) (zA zF (zA zF zG))))) (zE zF) (zr _)) (zL (zw (zU (zA zv (zA (zD 4 (pv 4)) (zA (zD 5 (pv 5)) (zA (zU (zA (zU (zA (zX (zC 6 (pv 6)) (zE zF)) (zA (zD 3 (pv 3)) zG))) zG)) zG))))))) z9) (zL (zw (zU (zA zv (zA (zD 4 (pv 4)) (zA (zD 5 (pv 5)) (zA (zU (zA (zU (zA (zX (zC 6 (pv 6)) (zE zF)) (zA (zX (zE (zg (yo (zA (zD 1 (pv 1)) (zA (zD 3 (pv 3)) zG))))) (zE (zb qt (zC 0 (pv 0)) (zE zF)))) zG))) (zA (zU (zA (zX (zC 6 (pv 6)) (zE zF)) (zA (zX (zE (zg (yo (zA (zD 3 (pv 3)) (zA (zD 1 (pv 1)) zG))))) (zE (zb qt (zC 0 (pv 0)) (zE zF)))) zG))) zG))) zG)))))))))))
theorem zD5:zV zCm ["_law_script"] (zI zCa):=by right
theorem zJN (h_law_mix:yA P w K mg base 1 "_law_mix" 3 zT) (h_law_cell:yA P w K mg base 1 "_law_cell" 2 z7) (h_law_told_on:yA P w K mg base 3 "_law_told_on" 4 zY) (h_law_size:yA P w K mg base 2 "_law_size" 2 zA4) (h_law_apart_two:yA P w K mg base 3 "_law_apart_two" 4 yK) (hT:Bl mg) (hCl:Cl K mg C κ):TD P w K mg base 3 zCm "_law_dance" zCa zBO:=by
 intro fa cdv A outer s H hr
 have hN:=zD5.nd
 exact (zH (zh 1 (zb zW (zE zF) (zE (zM h_law_mix ∅ ⋯ rfl (zA (zM h_law_cell ∅ ⋯ rfl (zA (zD 0 (pv 0)) (zA zF zG))) (zA zF (zA zF zG)))))) hN ⋯ (.inl ⋯)) (zH (zDe 2 (nm:=["_law_k"]) (m:=1) rfl rfl ⋯ ⋯ (yZ (gl ⋯) hT.range (zA (zb zW (zE zF) (zE (zM h_law_mix ∅ ⋯ rfl (zA (zM h_law_cell ∅ ⋯ rfl (zA (zD 0 (pv 0)) (zA zF zG))) (zA zF (zA zF zG)))))) zG)) (yH (show 9<=9 by decide)) (λC s₃ H₃ ex=>(zQ 9 (yi (nm:=["_law_k"]) ⋯) ⋯ (.inl ⋯) (.inr ⋯))) (λC s₃ H₃ ex=>.inl ⟨rfl,rfl⟩) (λC s₃ H₃ ex=>(zM h_law_cell ∅ ⋯ rfl (zA (zD 0 (pv 0)) (zA (zb zW (zE zF) (zC 9 (pv 9))) zG)))) hN ⋯ (.inl ⋯)) (zH (qE 3 (yo (zA zF zG)) hN ⋯ (.inr ⋯)) (zH (qX zVg rfl (zBK (zD 2 (pv 2))) (zQ 4 hN ⋯ (.inr ⋯) (.inl rfl)) (zL (yR 3 (pv 3) (zb zW (zE (zX (zC 3 (pv 3)) (zE (zHc (zE zF))))) (zE (zM h_law_size ∅ ⋯ rfl (zA (zD 4 (pv 4)) (zA (zD 1 (pv 1)) zG)))))))) (zH (qE 5 (yo zG) hN ⋯ (.inl ⋯)) (zH (qX zVg rfl (zIh (gl ⋯) hT.enumerate (zD 2 (pv 2))) (zAz rfl (zZ (zQ 6 hN ⋯ (.inl ⋯) (.inl rfl)) (zZ (zQ 4 hN ⋯ (.inr ⋯) (.inl rfl)) qY))) (zH (zIq 7 (nm:=["_law_j"]) (m:=1) rfl rfl ⋯ ⋯ (yZ (gl ⋯) hT.range (zA zF zG)) (yH (show 9<=9 by decide)) (λC s₃ H₃ ex=>(zQ 9 (yi (nm:=["_law_j"]) ⋯) ⋯ (.inl ⋯) (.inr ⋯))) (λC s₃ H₃ ex=>.inl ⟨rfl,rfl⟩) (λC s₃ H₃ ex=>(zX (zC 3 (pv 3)) (zE (zM h_law_mix ∅ ⋯ rfl (zA (zb zW (zC 4 (pv 4)) (zE (zb zCg (zE zF) (zC 9 (pv 9))))) (zA zF (zA (yC zy (gl ⋯) hT.len zVj (zC 3 (pv 3))) zG))))))) hN ⋯ (.inl ⋯)) (zH (zh 8 (zX (zC 7 (pv 7)) (zE zF)) hN ⋯ (.inl ⋯)) (zH (yz (yG (zFo) (zE (zM h_law_mix ∅ ⋯ rfl (zA (zD 4 (pv 4)) (zA zF (zA zF zG))))) (zE zF) (zr _)) (zL (zOQ 7 (pv 7) zF (zb zAM (zE (zX (zC 3 (pv 3)) (zE (zb zW (zC 6 (pv 6)) (zE zF))))) (zE zF)))) z9) (zP2 7 (zH (qE 5 (zHd (zC 5 (pv 5)) (zE (zM h_law_told_on ∅ ⋯ rfl (zA (zD 4 (pv 4)) (zA (zX (zC 3 (pv 3)) (zC 6 (pv 6))) (zA (zD 1 (pv 1)) (zA (zD 7 (pv 7)) zG))))))) hN ⋯ (.inl ⋯)) (zL (yz (yG (zFo) (zE (zM h_law_mix ∅ ⋯ rfl (zA (zD 4 (pv 4)) (zA zF (zA zF zG))))) (zE zF) (zr _)) (zL (yR 5 (pv 5) (zM h_law_apart_two ∅ ⋯ rfl (zA (zD 4 (pv 4)) (zA (zb zAM (zE (zX (zC 3 (pv 3)) (zE (zb zW (zC 6 (pv 6)) (zE zF))))) (zE zF)) (zA (zD 1 (pv 1)) (zA (zD 8 (pv 8)) zG))))))) z9)))))))) (zL (zw (zU (zA (zD 1 (pv 1)) (zA (yQ yp (gl ⋯) hT.tuple zAO (zE (zg (zHd (zC 5 (pv 5)) (zE (zg (yo (zA (zU (zA zv zG)) zG)))))))) zG)))))))))))
theorem zHC:zV zB2 ["place","dancer"] (zI zBn):=by right
theorem zIK  (hT:Bl mg) (hCl:Cl K mg C κ):TD P w K mg base 0 zB2 "takes_part" zBn zAf:=by
 intro fa cdv A outer s H hr
 have hu:=zHG hr
 exact (zL (zw (zHa (zEb (yW hu) (zE (zX (zC 0 (pv 0)) (zE zF))) (zE zv) (zr _)) (zHZ (zTh hu (zD 1 (pv 1)) (zE (zU (zA (zX (zC 0 (pv 0)) (zE zF)) (zA (zX (zC 0 (pv 0)) (zE zF)) zG)))) (by rfl))))))
theorem zLA:zV zE5 ["place","dancer"] (zI zEP):=by right
theorem zNn (h_takes_part:yA P w K mg base 1 "takes_part" 2 yg) (hT:Bl mg) (hCl:Cl K mg C κ):TD P w K mg base 1 zE5 "is_turn" zEP zDC:=by
 intro fa cdv A outer s H hr
 have hu:=zHG hr
 exact (zL (zw (se_or (zEb (yW hu) (zE (zX (zC 0 (pv 0)) (zE zF))) (zE zv) (zr _)) (zHZ (zM h_takes_part ∅ ⋯ rfl (zA (zD 0 (pv 0)) (zA (zD 1 (pv 1)) zG)))))))
theorem zCY:zV zBQ ["dance","dancer","some"] (zI zBE):=by right
theorem zHD (h_is_turn:yA P w K mg base 2 "is_turn" 2 zA8) (hT:Bl mg) (hCl:Cl K mg C κ):TD P w K mg base 2 zBQ "turns_among" zBE zBR:=by
 intro fa cdv A outer s H hr
 have hN:=zCY.nd
 exact (zH (zDe 3 (nm:=["number"]) (m:=1) rfl rfl ⋯ ⋯ (zCu (zD 2 (pv 2))) (yH (show 4<=4 by decide)) (λC s₃ H₃ ex=>(zQ 4 (yi (nm:=["number"]) ⋯) ⋯ (.inl ⋯) (.inr ⋯))) (λC s₃ H₃ ex=>.inl ⟨rfl,rfl⟩) (λC s₃ H₃ ex=>(zX (zE (zX (zC 0 (pv 0)) (zE zF))) (zC 4 (pv 4)))) hN ⋯ (.inl ⋯)) (zL (zw (zg (qv (nm:=["place"]) (m:=1) rfl rfl ⋯ ⋯ (zBK (zD 3 (pv 3))) (yH (show 4<=4 by decide)) (λC s₃ H₃ ex=>(zQ 4 (yi (nm:=["place"]) ⋯) ⋯ (.inl ⋯) (.inr ⋯))) (λC s₃ H₃ ex=>.inr ⟨_,rfl,(zEc (zE (zM h_is_turn ∅ ⋯ rfl (zA (zD 4 (pv 4)) (zA (zD 1 (pv 1)) zG)))))⟩) (λC s₃ H₃ ex=>(zD 4 (pv 4))))))))
theorem zHE:zV zB0 ["place"] (zI zBo):=by right
theorem zIL  (hT:Bl mg) (hCl:Cl K mg C κ):TD P w K mg base 0 zB0 "choices_of" zBo zAe:=by
 intro fa cdv A outer s H hr
 have hu:=zHG hr
 exact (zH (yz (yG (yW hu) (zE (zX (zC 0 (pv 0)) (zE zF))) (zE zv) (zr _)) (zL (zw (zU zG))) z9) (zL (zw (zX (zC 0 (pv 0)) (zE zF)))))
theorem zKW:zV zI1 ["dance","dancer","some"] (zI zIQ):=by right
theorem zSj (h_takes_part:yA P w K mg base 1 "takes_part" 2 yg) (h_choices_of:yA P w K mg base 1 "choices_of" 1 yf) (hT:Bl mg) (hCl:Cl K mg C κ):TD P w K mg base 1 zI1 "apart" zIQ zI2:=by
 intro fa cdv A outer s H hr
 have hu1:=zGU hr
 have hN:=zKW.nd
 exact (zH (zh 3 (zX (zC 0 (pv 0)) (zE zF)) hN ⋯ (.inl ⋯)) (zH (zFv 4 hN ⋯ (.inl ⋯)) (zH (qE 5 (zLz zL7 (gl ⋯) hT.list zTl (zC 2 (pv 2))) hN ⋯ (.inl ⋯)) (zH (zOI 300 zVg (yG (zFo) (zE (yC zy (gl ⋯) hT.len zVj (zC 5 (pv 5)))) (zE zF) (zr _)) (zH (zTq 6 5 (pv 5) hN ⋯ (.inl ⋯)) (zH (yz (zTo hu1 4 (pv 4) (zD 6 (pv 6))) (zL zRJ) z9) (zH (zMH hu1 4 (pv 4) (zD 6 (pv 6)) zFT) (zL (yz (zLy (zEc (zE (zM h_takes_part ∅ ⋯ rfl (zA (zX (zC 3 (pv 3)) (zC 6 (pv 6))) (zA (zD 1 (pv 1)) zG)))))) (zL (zHn 5 (pv 5) (qv (nm:=["choice"]) (m:=1) rfl rfl ⋯ ⋯ (zCu (zM h_choices_of ∅ ⋯ rfl (zA (zX (zC 3 (pv 3)) (zC 6 (pv 6))) zG))) (yH (show 7<=7 by decide)) (λC s₃ H₃ ex=>(zQ 7 (yi (nm:=["choice"]) ⋯) ⋯ (.inl ⋯) (.inr ⋯))) (λC s₃ H₃ ex=>.inl ⟨rfl,rfl⟩) (λC s₃ H₃ ex=>(zX (zC 7 (pv 7)) (zE zF)))))) z9)))))) (zL (zw (yQ yp (gl ⋯) hT.tuple zAO (zE (zg (zOX 4 rfl (gl ⋯) hT.sorted (pv 4)))))))))))
theorem zGH:zV zE6 ["dance","dancer"] (zI zEQ):=by right
theorem zNo (h_turns_among:yA P w K mg base 3 "turns_among" 3 yT) (h_apart:yA P w K mg base 2 "apart" 3 qT) (hT:Bl mg) (hCl:Cl K mg C κ):TD P w K mg base 3 zE6 "in_vain" zEQ zB7:=by
 intro fa cdv A outer s H hr
 have hu:=zHG hr
 have hu1:=zGU hr
 have hN:=zGH.nd
 exact (zH (zFv 2 hN ⋯ (.inl ⋯)) (zH (qX zVg rfl (yZ (gl ⋯) hT.range (zA (yC zy (gl ⋯) hT.len zVj (zE (zX (zC 0 (pv 0)) (zE zF)))) zG)) (zQ 3 hN ⋯ (.inl ⋯) (.inl rfl)) (zL (yz (yG (yW hu) (zE (yC zy (gl ⋯) hT.len zVj (zE (zM h_turns_among ∅ ⋯ rfl (zA (zD 0 (pv 0)) (zA (zD 1 (pv 1)) (zA (zM h_apart ∅ ⋯ rfl (zA (zD 0 (pv 0)) (zA (zD 1 (pv 1)) (zA (zU (zA (zD 3 (pv 3)) zG)) zG)))) zG))))))) (zE zF) (zr _)) (zL (zMH hu1 2 (pv 2) (zD 3 (pv 3)) zFT)) z9))) (zL (zMZ 2 (pv 2)))))
theorem zAt:zV yc ["dancer","some","turns","vain"] (zI yX):=by right
theorem zBB  (hT:Bl mg) (hCl:Cl K mg C κ):TX P w K mg base κ 0 yc "refuse_waiting_in_vain" yX zp:=by
 intro fa cdv A outer s H E hr
 have hu1:=zGU hr
 obtain ⟨hK,hA_parts,hA_at,hA_rows,hA_past,hE_NoPart,hM_NoPart⟩:=hCl
 exact (zMP (zTx (zTa (zJh (yG (zFo) (zE (yC zy (gl ⋯) hT.len zVj (zC 2 (pv 2)))) (zE zF) (zr _)) (zGX (zEc (zE (yC (zML rfl) (gl ⋯) hT.any b_any (zE (zg (qv (nm:=["number"]) (m:=1) rfl rfl ⋯ ⋯ (zCu (zD 1 (pv 1))) (yH (show 4<=4 by decide)) (λC s₃ H₃ ex=>(zQ 4 (yi (nm:=["number"]) ⋯) ⋯ (.inl ⋯) (.inr ⋯))) (λC s₃ H₃ ex=>.inl ⟨rfl,rfl⟩) (λC s₃ H₃ ex=>(zT5 hu1 3 (pv 3) (zD 4 (pv 4))))))))))))) (zMP (zJq 0 hE_NoPart (gl ⋯) hM_NoPart (zA (zMT (zC 0 (pv 0))) zG))) (zF0 z9)))
theorem zJO:zV zDm ["turn","dancer"] (zI zDO):=by right
theorem zLB  (hT:Bl mg) (hCl:Cl K mg C κ):TD P w K mg base 0 zDm "asked_at" zDO zCK:=by
 intro fa cdv A outer s H hr
 have hu:=zHG hr
 exact (zH (yz (yG (yW hu) (zE (zX (zC 0 (pv 0)) (zE zF))) (zE zv) (zr _)) (zL (zw (zU (zA zv zG)))) z9) (zH (yz (yG (yW hu) (zE (zX (zC 0 (pv 0)) (zE zF))) (zC 1 (pv 1)) (zr _)) (zL (zw (zU (zA zv (zA (zX (zC 0 (pv 0)) (zE zF)) (zA (yQ yp (gl ⋯) hT.tuple zAO (zE (zg (qv (nm:=["choice"]) (m:=1) rfl rfl ⋯ ⋯ (zCu (zX (zC 0 (pv 0)) (zE zF))) (yH (show 2<=2 by decide)) (λC s₃ H₃ ex=>(zQ 2 (yi (nm:=["choice"]) ⋯) ⋯ (.inl ⋯) (.inr ⋯))) (λC s₃ H₃ ex=>.inl ⟨rfl,rfl⟩) (λC s₃ H₃ ex=>(zX (zC 2 (pv 2)) (zE zF))))))) zG)))))) z9) (zL (zw (zU (zA zv (zA (zX (zC 0 (pv 0)) (zE zF)) zG)))))))
theorem zCB:zV zAr ["turns","dancer"] (zI zAk):=by right
theorem zFe (h_asked_at:yA P w K mg base 1 "asked_at" 2 qc) (hT:Bl mg) (hCl:Cl K mg C κ):TX P w K mg base κ 1 zAr "asked_at_all" zAk qg:=by
 intro fa cdv A outer s H E hr
 have hu:=zHG hr
 have hN:=zCB.nd
 obtain ⟨hK,hA_parts,hA_at,hA_rows,hA_past,hE_NoPart,hM_NoPart⟩:=hCl
 exact (qZ (zHo (yz (yG (yW hu) (zE (yC zy (gl ⋯) hT.len zVj (zC 0 (pv 0)))) (zE zF) (zr _)) (zL (zw (zU (zA zv zG)))) z9)) (qZ (zHo (zh 2 (zM h_asked_at ∅ ⋯ rfl (zA (zX (zC 0 (pv 0)) (zE zF)) (zA (zD 1 (pv 1)) zG))) hN ⋯ (.inr ⋯))) (qZ (zTx (zLy (zEc (zE (yC (zMK rfl) (gl ⋯) hT.all b_all (zE (zg (qv (nm:=["turn"]) (m:=1) rfl rfl ⋯ ⋯ (zBK (zD 0 (pv 0))) (yH (show 3<=3 by decide)) (λC s₃ H₃ ex=>(zQ 3 (yi (nm:=["turn"]) ⋯) ⋯ (.inl ⋯) (.inr ⋯))) (λC s₃ H₃ ex=>.inl ⟨rfl,rfl⟩) (λC s₃ H₃ ex=>(zEb (yW hu) (zE (zM h_asked_at ∅ ⋯ rfl (zA (zD 3 (pv 3)) (zA (zD 1 (pv 1)) zG)))) (zC 2 (pv 2)) (zr _)))))))))) (zMP (zJq 0 hE_NoPart (gl ⋯) hM_NoPart (zA (zMT (zC 1 (pv 1))) zG))) (zF0 z9)) (zF0 (zL (zw (zD 2 (pv 2))))))))
theorem zBh:zV zAX ["turns"] (zI zAH):=by right
theorem zFO (h_choices_of:yA P w K mg base 1 "choices_of" 1 yf) (hT:Bl mg) (hCl:Cl K mg C κ):TD P w K mg base 1 zAX "nexts_by_word" zAH zAY:=by
 intro fa cdv A outer s H hr
 have hu1:=zGU hr
 have hN:=zBh.nd
 exact (zH (zOh 1 hN ⋯ (.inl ⋯)) (zH (qX zVg rfl (zBK (zD 0 (pv 0))) (zQ 2 hN ⋯ (.inl ⋯) (.inl rfl)) (zL (qX zVg rfl (zCu (zM h_choices_of ∅ ⋯ rfl (zA (zD 2 (pv 2)) zG))) (zAz rfl (zZ (zQ 3 hN ⋯ (.inl ⋯) (.inl rfl)) (zZ (zQ 4 hN ⋯ (.inl ⋯) (.inl rfl)) qY))) (zL (zOj 1 hu1 (pv 1) (zD 3 (pv 3)) (zD 4 (pv 4))))))) (zL (zMZ 1 (pv 1)))))
theorem zGI:zV zE7 ["dance","dancer"] (zI zER):=by right
theorem zNp (h_in_vain:zRk P w K mg base 4 "in_vain" 2 ql) (h_apart:yA P w K mg base 2 "apart" 3 qT) (h_turns_among:yA P w K mg base 3 "turns_among" 3 yT) (h_refuse_waiting_in_vain:zRv P w K mg base κ 1 "refuse_waiting_in_vain" 4 zq) (h_asked_at_all:zTy P w K mg base κ 2 "asked_at_all" 2 yJ) (h_nexts_by_word:zRk P w K mg base 2 "nexts_by_word" 1 yr) (hT:Bl mg) (hCl:Cl K mg C κ):TX P w K mg base κ 4 zE7 "part_of" zER zE8:=by
 intro fa cdv A outer s H E hr
 have hu:=zHG hr
 have hu1:=zGU hr
 have hN:=zGI.nd
 exact (qZ (zHo (zIl 2 h_in_vain ∅ ⋯ rfl (zA (zD 0 (pv 0)) (zA (zD 1 (pv 1)) zG)) hN ⋯ (.inl ⋯))) (qZ (zHo (qE 3 (yo (zA (zM h_apart ∅ ⋯ rfl (zA (zD 0 (pv 0)) (zA (zD 1 (pv 1)) (zA (zU (zA zF zG)) zG)))) zG)) hN ⋯ (.inl ⋯))) (qZ (zHo (zRr hu1 4 (zX (zC 3 (pv 3)) (zE zF)) zF hN ⋯ (.inl ⋯))) (qZ (zHo (qE 5 (yo zG) hN ⋯ (.inl ⋯))) (qZ (zOa 20000000 zF3 (yG (zP8) (zE (yC zy (gl ⋯) hT.len zVj (zC 5 (pv 5)))) (zE (yC zy (gl ⋯) hT.len zVj (zC 3 (pv 3)))) (zr _)) (qZ (zHo (zh 6 (zX (zC 3 (pv 3)) (zE (yC zy (gl ⋯) hT.len zVj (zC 5 (pv 5))))) hN ⋯ (.inl ⋯))) (qZ (zHo (zh 7 (zM h_turns_among ∅ ⋯ rfl (zA (zD 0 (pv 0)) (zA (zD 1 (pv 1)) (zA (zD 6 (pv 6)) zG)))) hN ⋯ (.inl ⋯))) (qZ (zRb (zOl h_refuse_waiting_in_vain zMN ∅ ⋯ rfl (zGi (zD 1 (pv 1)) (zGi (zD 6 (pv 6)) (zGi (zD 7 (pv 7)) (zRt 2 (pv 2))))))) (qZ (zTz 8 (zMQ h_asked_at_all zMN ∅ ⋯ rfl (zA (zD 7 (pv 7)) (zA (zD 1 (pv 1)) zG))) hN ⋯ (.inl ⋯)) (zF0 (zH (zIl 9 h_nexts_by_word ∅ ⋯ rfl (zA (zD 7 (pv 7)) zG) hN ⋯ (.inl ⋯)) (zH (qE 10 (yo zG) hN ⋯ (.inl ⋯)) (zH (qX zF3 rfl (zBK (zg (zMg 9 rfl (gl ⋯) hT.sorted (pv 9)))) (zQ 11 hN ⋯ (.inl ⋯) (.inl rfl)) (zH (zh 12 (zM h_apart ∅ ⋯ rfl (zA (zD 0 (pv 0)) (zA (zD 1 (pv 1)) (zA (yQ yp (gl ⋯) hT.tuple zAO (zOi hu1 9 (pv 9) (zD 11 (pv 11)))) zG)))) hN ⋯ (.inl ⋯)) (zH (yz (zRo hu1 4 (pv 4) (zD 12 (pv 12))) (zH (zRp hu1 4 (pv 4) (zD 12 (pv 12)) (yC zy (gl ⋯) hT.len zVj (zC 3 (pv 3)))) (zL (yR 3 (pv 3) (zD 12 (pv 12))))) z9) (zL (yR 10 (pv 10) (zU (zA (zD 11 (pv 11)) (zA (zRn hu1 4 (pv 4) (zD 12 (pv 12))) zG)))))))) (zL (yR 5 (pv 5) (zOm (sb_in hu (zX (zC 8 (pv 8)) (zE zF)) (zE (zU (zA zv (zA zv zG)))) (by rfl)) (zU (zA (zX (zC 8 (pv 8)) (zE zF)) (zA (zX (zC 8 (pv 8)) (zE zF)) (zA (yQ yp (gl ⋯) hT.tuple zAO (zC 10 (pv 10))) zG)))) (zD 8 (pv 8)))))))))))))) (zF0 (zL (zw (yQ yp (gl ⋯) hT.tuple zAO (zC 5 (pv 5)))))))))))
theorem zSk:zV zNN ["self","dance"] (zI zLM):=by right
theorem zUo (h_part_of:zTy P w K mg base κ 5 "part_of" 2 qA) (hT:Bl mg) (hCl:Cl K mg C κ):TX P w K mg base κ 5 zNN "Hall.__init__" zLM (zGC C):=by
 intro fa cdv A outer s H E hr
 obtain ⟨hK,hA_parts,hA_at,hA_rows,hA_past,hE_NoPart,hM_NoPart⟩:=hCl
 exact (qZ (zOt 0 hK hA_parts (pv 0) (nm:=["dancer"]) (m:=1) rfl ⋯ ⋯ (yZ (gl ⋯) hT.range (zA (zX (zC 1 (pv 1)) (zE zF)) zG)) (yH (show 2<=2 by decide)) (λC s₃ H₃ ex=>(zQ 2 (yi (nm:=["dancer"]) ⋯) ⋯ (.inl ⋯) (.inr ⋯))) (λC s₃ H₃ ex EE hP=>(zMQ h_part_of hP ∅ ⋯ rfl (zA (zD 1 (pv 1)) (zA (zD 2 (pv 2)) zG))))) (zF0 (zH (zJx 0 hK hA_at (pv 0) (qv (nm:=["part"]) (m:=1) rfl rfl ⋯ ⋯ (zBK (zT2 0 hK hA_parts (pv 0))) (yH (show 2<=2 by decide)) (λC s₃ H₃ ex=>(zQ 2 (yi (nm:=["part"]) ⋯) ⋯ (.inl ⋯) (.inr ⋯))) (λC s₃ H₃ ex=>.inl ⟨rfl,rfl⟩) (λC s₃ H₃ ex=>zF))) (zH (zOn 0 hK hA_rows (pv 0)) (zL (zJx 0 hK hA_past (pv 0) (yo zG)))))))
theorem zFP:zV zDu ["_law_dance_here"] (zI zDP):=by right
theorem zLC {fi:Addr} {fdi:FuncData} {psi:List Str} (hMk:Mk K C fi) (FO_init:zCe P w K mg base (CXE P w) 6 fi fdi psi (zUB K κ (zFB C) 2)) (hB_init:L2.zAx K fdi psi []) (hM_Hall:mg "Hall" = some (.ref C)) (hT:Bl mg) (hCl:Cl K mg C κ):TD P w K mg base 7 zDu "_law_hall" zDP (zCN C):=by
 intro fa cdv A outer s H hr
 have hN:=zFP.nd
 obtain ⟨hK,hA_parts,hA_at,hA_rows,hA_past,hE_NoPart,hM_NoPart⟩:=hCl
 exact (zH (zh 1 zLx hN ⋯ (.inl ⋯)) (zH (zOu 1 0 hMk FO_init hB_init ∅ (gl ⋯) hM_Hall rfl (zA (zD 0 (pv 0)) zG) rfl hE_NoPart (gl ⋯) hM_NoPart rfl rfl (λy=>(zL (zh 1 zLx hN ⋯ (.inl ⋯)))) hN ⋯ (.inl ⋯)) (zL (zOp 1 (pv 1)))))
theorem zGJ:zV zFI ["_law_dance_here","_law_script","_law_k"] (zI zES):=by right
theorem zNq (h_law_mix:yA P w K mg base 1 "_law_mix" 3 zT) (hT:Bl mg) (hCl:Cl K mg C κ):TD P w K mg base 1 zFI "_law_way" zES zFJ:=by
 intro fa cdv A outer s H hr
 have hu:=zHG hr
 have hN:=zGJ.nd
 exact (zH (zh 3 (zU zG) hN ⋯ (.inl ⋯)) (zH (zh 4 zF hN ⋯ (.inl ⋯)) (zH (qX zVg rfl (zBK (zg (zON (zC 1 (pv 1)) (qO (zD 2 (pv 2))) (qO (zb zW (zC 2 (pv 2)) (zE zF)))))) (zQ 5 hN ⋯ (.inl ⋯) (.inl rfl)) (zL (yz (yG (zJm hu) (zE (zX (zE (zX (zC 0 (pv 0)) (zE zF))) (zC 4 (pv 4)))) (zE (zU (zA zv zG))) (zr _)) (zH (zh 6 (zX (zE (zX (zE (zX (zC 0 (pv 0)) (zE zF))) (zC 4 (pv 4)))) (zE zF)) hN ⋯ (.inl ⋯)) (zH (zJj (zX (zC 6 (pv 6)) (zE (zM h_law_mix ∅ ⋯ rfl (zA (zD 5 (pv 5)) (zA zF (zA (yC zy (gl ⋯) hT.len zVj (zC 6 (pv 6))) zG)))))) (zAz rfl (zZ (zQ 7 hN ⋯ (.inl ⋯) (.inl rfl)) (zZ (zQ 4 hN ⋯ (.inl ⋯) (.inl rfl)) qY)))) (zL (zh 3 (zb zW (zC 3 (pv 3)) (zE (zU (zA (zD 7 (pv 7)) zG)))) hN ⋯ (.inl ⋯))))) z9))) (zL (zw (zD 3 (pv 3)))))))
theorem zDI:zV zB4 ["_law_dance_here","_law_cell_here"] (zI zBp):=by right
theorem zIM (h_law_mix:yA P w K mg base 1 "_law_mix" 3 zT) (hT:Bl mg) (hCl:Cl K mg C κ):TD P w K mg base 1 zB4 "_law_spoilt" zBp zAg:=by
 intro fa cdv A outer s H hr
 have hu:=zHG hr
 have hN:=zDI.nd
 exact (zH (zJj (zD 0 (pv 0)) (zAz rfl (zZ (zQ 2 hN ⋯ (.inl ⋯) (.inl rfl)) (zZ (zQ 3 hN ⋯ (.inl ⋯) (.inl rfl)) qY)))) (zH (zh 4 (zM h_law_mix ∅ ⋯ rfl (zA (zD 1 (pv 1)) (zA zF (zA (yC zy (gl ⋯) hT.len zVj (zC 3 (pv 3))) zG)))) hN ⋯ (.inl ⋯)) (zH (zh 5 (zX (zC 3 (pv 3)) (zC 4 (pv 4))) hN ⋯ (.inl ⋯)) (zH (yz (yG (yW hu) (zC 5 (pv 5)) (zE (zU (zA zv zG))) (zr _)) (zL (zh 5 (zU (zA zv (zA (zb qt (zC 1 (pv 1)) (zC 2 (pv 2))) (zA (zb qt (zE (zb zW (zC 1 (pv 1)) (zE zF))) (zC 2 (pv 2))) (zA (zU (zA (zU (zA zv (zA (zM h_law_mix ∅ ⋯ rfl (zA (zD 1 (pv 1)) (zA zF (zA (yC zy (gl ⋯) hT.len zVj (zC 3 (pv 3))) zG)))) zG))) zG)) zG))))) hN ⋯ (.inl ⋯))) z9) (zH (zh 6 (zM h_law_mix ∅ ⋯ rfl (zA (zD 1 (pv 1)) (zA zF (zA zF zG)))) hN ⋯ (.inl ⋯)) (zH (zJj (zX (zE (zX (zC 5 (pv 5)) (zE zF))) (zE (zHc (zE zF)))) (zAz rfl (zZ (zQ 7 hN ⋯ (.inl ⋯) (.inl rfl)) (zZ (zQ 8 hN ⋯ (.inl ⋯) (.inl rfl)) qY)))) (zH (yz (yG (yW hu) (zC 6 (pv 6)) (zE zF) (zr _)) (zL (zh 5 (zb zW (zE (qC (zC 5 (pv 5)) qu (qO zF))) (zE (zU (zA (zb zW (zE (qC (zE (zX (zC 5 (pv 5)) (zE zF))) qu (qO (zHc (zE zF))))) (zE (zU (zA (zU (zA (zD 7 (pv 7)) (zA (zM h_law_mix ∅ ⋯ rfl (zA (zD 1 (pv 1)) (zA zF (zA (yC zy (gl ⋯) hT.len zVj (zC 3 (pv 3))) zG)))) zG))) zG)))) zG)))) hN ⋯ (.inl ⋯))) z9) (zH (yz (yG (yW hu) (zC 6 (pv 6)) (zE zF) (zr _)) (zL (zh 5 (zU (zA zv (zA (zX (zC 5 (pv 5)) (zE zF)) (zA (zX (zC 5 (pv 5)) (zE zF)) (zA (zX (zC 5 (pv 5)) (zE zF)) zG))))) hN ⋯ (.inl ⋯))) z9) (zH (yz (yG (yW hu) (zC 6 (pv 6)) (zE zF) (zr _)) (zL (zh 5 (zb zW (zE (qC (zC 5 (pv 5)) qu (qO zF))) (zE (zU (zA (zb zW (zE (qC (zE (zX (zC 5 (pv 5)) (zE zF))) qu (qO (zHc (zE zF))))) (zE (zU (zA (zU (zA (zb zW (zE (qC (zC 7 (pv 7)) qu (qO zF))) (zE zv)) (zA (zD 8 (pv 8)) zG))) zG)))) zG)))) hN ⋯ (.inl ⋯))) z9) (zH (yz (yG (yW hu) (zC 6 (pv 6)) (zE zF) (zr _)) (zL (zh 5 (zb zW (zE (qC (zC 5 (pv 5)) qu (qO zF))) (zE (zU (zA (qC (zE (zX (zC 5 (pv 5)) (zE zF))) (qO (zHc (zE zF))) qu) zG)))) hN ⋯ (.inl ⋯))) z9) (zH (yz (yG (yW hu) (zC 6 (pv 6)) (zE zF) (zr _)) (zL (zh 5 (zU (zA zv zG)) hN ⋯ (.inl ⋯))) z9) (zL (zw (zU (zA (zD 2 (pv 2)) (zA (zb zW (zE (zb zW (zE (qC (zC 3 (pv 3)) qu (qO (zD 4 (pv 4))))) (zE (zU (zA (zD 5 (pv 5)) zG))))) (zE (qC (zC 3 (pv 3)) (qO (zb zW (zC 4 (pv 4)) (zE zF))) qu))) zG))))))))))))))))
theorem zJP:zV zDp ["thing"] (zI zDQ):=by right
theorem zLD  (hT:Bl mg) (hCl:Cl K mg C κ):TD P w K mg base 0 zDp "is_whole" zDQ zDq:=by
 intro fa cdv A outer s H hr
 exact (zL (zw (zHa (zQD (T:="int") (by decide) (gl ⋯) hT.isinstance (gl ⋯) hT.int zOR (zC 0 (pv 0))) (zHZ (zTc (zQD (T:="bool") (by decide) (gl ⋯) hT.isinstance (gl ⋯) hT.bool zTn (zC 0 (pv 0))))))))
theorem zJQ:zV zDr ["self","dancer"] (zI zDR):=by right
theorem zLE  (hT:Bl mg) (hCl:Cl K mg C κ):TD P w K mg base 0 zDr "Hall.state_of" zDR (zDs C):=by
 intro fa cdv A outer s H hr
 obtain ⟨hK,hA_parts,hA_at,hA_rows,hA_past,hE_NoPart,hM_NoPart⟩:=hCl
 exact (zL (zw (zX (zE (zX (zJr 0 hK hA_parts (pv 0)) (zC 1 (pv 1)))) (zE (zX (zJr 0 hK hA_at (pv 0)) (zC 1 (pv 1)))))))
theorem zUp:zV zSY ["self","one","other"] (zI zQe):=by right
theorem d_row  (hT:Bl mg) (hCl:Cl K mg C κ):TD P w K mg base 0 zSY "Hall.row" zQe (zPX C):=by
 intro fa cdv A outer s H hr
 have hu1:=zGU hr
 obtain ⟨hK,hA_parts,hA_at,hA_rows,hA_past,hE_NoPart,hM_NoPart⟩:=hCl
 exact (zL (zw (yQ yp (gl ⋯) hT.tuple zAO (zRh 0 hu1 hK hA_rows (pv 0) (zU (zA (zD 1 (pv 1)) (zA (zD 2 (pv 2)) zG))) (zU zG) ⟨rfl,rfl,rfl,rfl⟩))))
theorem zFQ:zV zDt ["self","dancer"] (zI zDS):=by right
theorem zLF (h_state_of:zIP P w K mg base C 1 "state_of" 2 (yw C)) (h_row:zIP P w K mg base C 1 "row" 3 (zG3 C)) (hT:Bl mg) (hCl:Cl K mg C κ):TD P w K mg base 1 zDt "Hall.moves_of" zDS (zCM C):=by
 intro fa cdv A outer s H hr
 have hu:=zHG hr
 have hN:=zFQ.nd
 obtain ⟨hK,hA_parts,hA_at,hA_rows,hA_past,hE_NoPart,hM_NoPart⟩:=hCl
 exact (zH (zh 2 (zEs 0 h_state_of hK ∅ (pv 0) (zA (zD 1 (pv 1)) zG) rfl) hN ⋯ (.inr ⋯)) (zH (yz (yG (yW hu) (zE (zX (zC 2 (pv 2)) (zE zF))) (zE zv) (zr _)) (zL (zIn (qv (nm:=["word","number"]) (m:=2) rfl rfl ⋯ ⋯ (zCu (zX (zC 2 (pv 2)) (zE zF))) (zJo (zCx (yH (show 4<=4 by decide)) (zCx (yH (show 4<=5 by decide)) zHf))) (λC s₃ H₃ ex=>(zAz rfl (zZ (zQ 4 (yi (nm:=["word","number"]) ⋯) ⋯ (.inl ⋯) (.inr ⋯)) (zZ (zQ 5 (yi (nm:=["word","number"]) ⋯) ⋯ (.inl ⋯) (.inr ⋯)) qY)))) (λC s₃ H₃ ex=>.inl ⟨rfl,rfl⟩) (λC s₃ H₃ ex=>(zU (zA zv (zA (zD 1 (pv 1)) (zA (zX (zC 2 (pv 2)) (zE zF)) (zA (zD 4 (pv 4)) zG))))))))) z9) (zH (yz (yG (yW hu) (zE (zX (zC 2 (pv 2)) (zE zF))) (zE zv) (zr _)) (zH (zh 3 (qC (zE (zEs 0 h_row hK ∅ (pv 0) (zA (zX (zC 2 (pv 2)) (zE zF)) (zA (zD 1 (pv 1)) zG)) rfl)) qu (qO zF)) hN ⋯ (.inr ⋯)) (zL (zIn (qv (nm:=["word","number"]) (m:=2) rfl rfl ⋯ ⋯ (zCu (zX (zC 2 (pv 2)) (zE zF))) (zJo (zCx (yH (show 4<=4 by decide)) (zCx (yH (show 4<=5 by decide)) zHf))) (λC s₃ H₃ ex=>(zAz rfl (zZ (zQ 4 (yi (nm:=["word","number"]) ⋯) ⋯ (.inl ⋯) (.inr ⋯)) (zZ (zQ 5 (yi (nm:=["word","number"]) ⋯) ⋯ (.inl ⋯) (.inr ⋯)) qY)))) (λC s₃ H₃ ex=>.inr ⟨_,rfl,(yG (yW hu) (zE (zU (zA (zD 4 (pv 4)) zG))) (zC 3 (pv 3)) (zr _))⟩) (λC s₃ H₃ ex=>(zU (zA zv (zA (zX (zC 2 (pv 2)) (zE zF)) (zA (zD 1 (pv 1)) (zA (zD 4 (pv 4)) zG)))))))))) z9) (zL (zIn (yo zG))))))
theorem zKX:zV zJB ["self"] (zI zIR):=by right
theorem zSl (h_moves_of:zR2 P w K mg base C 2 "moves_of" 2 (zBA C)) (hT:Bl mg) (hCl:Cl K mg C κ):TD P w K mg base 2 zJB "Hall.moves" zIR (zG4 C):=by
 intro fa cdv A outer s H hr
 have hN:=zKX.nd
 obtain ⟨hK,hA_parts,hA_at,hA_rows,hA_past,hE_NoPart,hM_NoPart⟩:=hCl
 exact (zH (qE 1 (yo zG) hN ⋯ (.inl ⋯)) (zH (qX zVg rfl (yZ (gl ⋯) hT.range (zA (yC zy (gl ⋯) hT.len zVj (zJr 0 hK hA_parts (pv 0))) zG)) (zQ 2 hN ⋯ (.inl ⋯) (.inl rfl)) (zL (zHn 1 (pv 1) (zR3 0 h_moves_of hK ∅ (pv 0) (zA (zD 2 (pv 2)) zG) rfl)))) (zL (zw (yQ yp (gl ⋯) hT.tuple zAO (zC 1 (pv 1)))))))
theorem zFf:zV zBT ["self","move"] (zI zBF):=by right
theorem zHF (h_is_whole:yA P w K mg base 1 "is_whole" 1 zAD) (h_moves:zIP P w K mg base C 3 "moves" 1 (zAs C)) (hT:Bl mg) (hCl:Cl K mg C κ):TD P w K mg base 3 zBT "Hall.can_be_done" zBF (q9 C):=by
 intro fa cdv A outer s H hr
 have hu:=zHG hr
 obtain ⟨hK,hA_parts,hA_at,hA_rows,hA_past,hE_NoPart,hM_NoPart⟩:=hCl
 exact (zL (zw (zHa (zTh hu (zD 1 (pv 1)) (zE (zEI 0 h_moves hK ∅ (pv 0))) (by rfl)) (zHa (zM h_is_whole ∅ ⋯ rfl (zA (zX (zC 1 (pv 1)) (zE zF)) zG)) (zHZ (zM h_is_whole ∅ ⋯ rfl (zA (zX (zC 1 (pv 1)) (zE zF)) zG)))))))
theorem zPn:zV zJC ["self","dancer","word"] (zI zIS):=by right
theorem zSm (h_state_of:zIP P w K mg base C 1 "state_of" 2 (yw C)) (hT:Bl mg) (hCl:Cl K mg C κ):TD P w K mg base 1 zJC "Hall.go_on" zIS (zFC C):=by
 intro fa cdv A outer s H hr
 have hu1:=zGU hr
 obtain ⟨hK,hA_parts,hA_at,hA_rows,hA_past,hE_NoPart,hM_NoPart⟩:=hCl
 exact (zL (zRg 0 hK hA_at (pv 0) (zD 1 (pv 1)) (zHs hu1 (gl ⋯) hT.dict (zX (zE (zEs 0 h_state_of hK ∅ (pv 0) (zA (zD 1 (pv 1)) zG) rfl)) (zE zF)) (zD 2 (pv 2)))))
theorem zUq:zV n_do ["self","move"] (zI s_do):=by right
theorem d_do (h_can_be_done:zIP P w K mg base C 4 "can_be_done" 2 (yx C)) (h_go_on:zSq P w K mg base C 2 "go_on" 3 (zB9 C)) (hT:Bl mg) (hCl:Cl K mg C κ):TD P w K mg base 4 n_do "Hall.do" s_do (zUX C):=by
 intro fa cdv A outer s H hr
 have hu:=zHG hr
 have hu1:=zGU hr
 have hN:=zUq.nd
 obtain ⟨hK,hA_parts,hA_at,hA_rows,hA_past,hE_NoPart,hM_NoPart⟩:=hCl
 exact (zH (yz (zLy (zEc (zE (zEs 0 h_can_be_done hK ∅ (pv 0) (zA (zD 1 (pv 1)) zG) rfl)))) (zL zOo) z9) (zH (zh 2 (zU (zA (zX (zC 1 (pv 1)) (zE zF)) (zA (zX (zC 1 (pv 1)) (zE zF)) zG))) hN ⋯ (.inl ⋯)) (zH (yz (yG (yW hu) (zE (zX (zC 1 (pv 1)) (zE zF))) (zE zv) (zr _)) (zH (zRj 0 hu1 hK hA_rows (pv 0) (zD 2 (pv 2)) (zX (zC 1 (pv 1)) (zE zF))) (zL (zGg 0 h_go_on hK ∅ (pv 0) (zA (zX (zC 1 (pv 1)) (zE zF)) (zA (zX (zC 1 (pv 1)) (zE zF)) zG)) rfl))) (zH (zRi 0 hu1 hK hA_rows (pv 0) (zD 2 (pv 2))) (zL (zGg 0 h_go_on hK ∅ (pv 0) (zA (zX (zC 1 (pv 1)) (zE zF)) (zA (zX (zC 1 (pv 1)) (zE zF)) zG)) rfl)))) (zL (zRe 0 hK hA_past (pv 0) (zD 1 (pv 1)))))))
theorem zD6:zV zCp ["_law_hall_here","_law_some"] (zI zCb):=by right
theorem zJR (h_do:zSq P w K mg base C 5 "do" 2 (zNv C)) (h_moves:zIP P w K mg base C 3 "moves" 1 (zAs C)) (hT:Bl mg) (hCl:Cl K mg C κ):TD P w K mg base 5 zCp "_law_heard" zCb (zBY C):=by
 intro fa cdv A outer s H hr
 have hu:=zHG hr
 have hN:=zD6.nd
 obtain ⟨hK,hA_parts,hA_at,hA_rows,hA_past,hE_NoPart,hM_NoPart⟩:=hCl
 exact (zH (qX zVg rfl (zBK (zD 1 (pv 1))) (zAz rfl (zZ (zQ 2 hN ⋯ (.inl ⋯) (.inl rfl)) (zZ (zQ 3 hN ⋯ (.inl ⋯) (.inl rfl)) (zZ (zQ 4 hN ⋯ (.inl ⋯) (.inl rfl)) qY)))) (zH (yz (zP7 hu (zU (zA zv (zA (zD 2 (pv 2)) (zA (zD 3 (pv 3)) (zA (zD 4 (pv 4)) zG))))) (zE (zEI 0 h_moves hK ∅ (pv 0))) (by rfl)) (zL (zMi zFT)) z9) (zL (zGg 0 h_do hK ∅ (pv 0) (zA (zU (zA zv (zA (zD 2 (pv 2)) (zA (zD 3 (pv 3)) (zA (zD 4 (pv 4)) zG))))) zG) rfl)))) (zL (zMi zFT)))
theorem zD7:zV zCo ["_law_dancer","_law_done"] (zI zCc):=by right
theorem zJS  (hT:Bl mg) (hCl:Cl K mg C κ):TD P w K mg base 0 zCo "_law_deeds" zCc zBV:=by
 intro fa cdv A outer s H hr
 have hu:=zHG hr
 have hN:=zD7.nd
 exact (zH (qE 2 (yo zG) hN ⋯ (.inl ⋯)) (zH (qX zVg rfl (zCu (zD 1 (pv 1))) (zAz rfl (zZ (zQ 3 hN ⋯ (.inl ⋯) (.inl rfl)) (zZ (zQ 4 hN ⋯ (.inl ⋯) (.inl rfl)) (zZ (zQ 5 hN ⋯ (.inl ⋯) (.inl rfl)) (zZ (zQ 6 hN ⋯ (.inl ⋯) (.inl rfl)) qY))))) (zL (yz (zTa (sw_or (zTa (zJh (yG (yW hu) (zC 3 (pv 3)) (zE zv) (zr _)) (zGX (yG (yW hu) (zC 4 (pv 4)) (zC 0 (pv 0)) (zr _))))) (zTb (zTa (zJh (yG (yW hu) (zC 3 (pv 3)) (zE zv) (zr _)) (zGX (yG (yW hu) (zC 5 (pv 5)) (zC 0 (pv 0)) (zr _)))))))) (zL (yR 2 (pv 2) (zU (zA (zD 3 (pv 3)) (zA (zD 4 (pv 4)) (zA (zD 5 (pv 5)) (zA (zD 6 (pv 6)) zG))))))) z9))) (zL (zL0 2 (pv 2)))))
theorem zSn:zV zNO ["self"] (zI zLN):=by right
theorem zUr  (hT:Bl mg) (hCl:Cl K mg C κ):TD P w K mg base 0 zNO "Hall.done" zLN (zNP C):=by
 intro fa cdv A outer s H hr
 obtain ⟨hK,hA_parts,hA_at,hA_rows,hA_past,hE_NoPart,hM_NoPart⟩:=hCl
 exact (zL (zw (yQ yp (gl ⋯) hT.tuple zAO (zJr 0 hK hA_past (pv 0)))))
theorem zQd:zV zSh ["_law_script"] (zI zGL):=by right
theorem d_law (h_law_dance:yA P w K mg base 4 "_law_dance" 1 qa) (h_law_hall:zRk P w K mg base 8 "_law_hall" 1 (zAE C)) (h_law_way:yA P w K mg base 2 "_law_way" 3 zCA) (h_law_spoilt:yA P w K mg base 2 "_law_spoilt" 2 qK) (h_do:zSq P w K mg base C 5 "do" 2 (zNv C)) (h_law_cell:yA P w K mg base 1 "_law_cell" 2 z7) (h_moves:zIP P w K mg base C 3 "moves" 1 (zAs C)) (h_law_heard:zR0 P w K mg base 6 "_law_heard" 2 (zBZ C)) (h_law_deeds:yA P w K mg base 1 "_law_deeds" 2 zBW) (h_done:zIP P w K mg base C 1 "done" 1 (zIA C)) (h_row:zIP P w K mg base C 1 "row" 3 (zG3 C)) (hT:Bl mg) (hCl:Cl K mg C κ):TD P w K mg base 8 zSh "law" zGL (zPh C):=by
 intro fa cdv A outer s H hr
 have hu:=zHG hr
 have hu1:=zGU hr
 have hN:=zQd.nd
 obtain ⟨hK,hA_parts,hA_at,hA_rows,hA_past,hE_NoPart,hM_NoPart⟩:=hCl
 exact (zH (zh 1 (zM h_law_dance ∅ ⋯ rfl (zA (zD 0 (pv 0)) zG)) hN ⋯ (.inl ⋯)) (zH (yz (yG (yW hu) (zE (zb qt (zE (zM h_law_cell ∅ ⋯ rfl (zA (zD 0 (pv 0)) (zA zF zG)))) (zE zF))) (zE zF) (zr _)) (zL (zh 1 (zM h_law_spoilt ∅ ⋯ rfl (zA (zD 1 (pv 1)) (zA (zb zOM (zE (zM h_law_cell ∅ ⋯ rfl (zA (zD 0 (pv 0)) (zA zF zG)))) (zE zF)) zG))) hN ⋯ (.inl ⋯))) z9) (zH (zIl 2 h_law_hall ∅ ⋯ rfl (zA (zD 1 (pv 1)) zG) hN ⋯ (.inr ⋯)) (zH (yz (zT9 2 (pv 2)) (zL (zw zFT)) z9) (zH (zh 3 (zM h_law_way ∅ ⋯ rfl (zA (zD 1 (pv 1)) (zA (zD 0 (pv 0)) (zA zF zG)))) hN ⋯ (.inl ⋯)) (zH (zh 4 zF hN ⋯ (.inl ⋯)) (zH (qE 5 (yo zG) hN ⋯ (.inl ⋯)) (zH (qX zVg rfl (zCu (zD 3 (pv 3))) (zQ 6 hN ⋯ (.inl ⋯) (.inl rfl)) (zH (zJj (zX (zE (zX (zC 1 (pv 1)) (zE zF))) (zC 4 (pv 4))) (zAz rfl (zZ (zQ 7 hN ⋯ (.inl ⋯) (.inl rfl)) (zZ (zQ 8 hN ⋯ (.inr ⋯) (.inl rfl)) (zZ (zQ 9 hN ⋯ (.inl ⋯) (.inl rfl)) (zZ (zQ 10 hN ⋯ (.inl ⋯) (.inl rfl)) qY)))))) (zH (yz (zP7 hu (zU (zA zv (zA (zD 8 (pv 8)) (zA (zD 9 (pv 9)) (zA (zD 6 (pv 6)) zG))))) (zE (zEI 2 h_moves hK ∅ (pv 2))) (by rfl)) (zL (zw zFT)) z9) (zH (zGg 2 h_do hK ∅ (pv 2) (zA (zU (zA zv (zA (zD 8 (pv 8)) (zA (zD 9 (pv 9)) (zA (zD 6 (pv 6)) zG))))) zG) rfl) (zH (zKt 2 h_law_heard ∅ ⋯ rfl (pv 2) (zA (zg (yo (zA (zU (zA (zD 8 (pv 8)) (zA (zD 9 (pv 9)) (zA (zD 6 (pv 6)) zG)))) zG))) zG) (zL (zw zFT)) z9) (zH (yR 5 (pv 5) (zU (zA (zD 8 (pv 8)) (zA (zD 9 (pv 9)) (zA (zD 6 (pv 6)) zG))))) (zL (zh 4 (zHs hu1 (gl ⋯) hT.dict (zD 10 (pv 10)) (zD 6 (pv 6))) hN ⋯ (.inl ⋯))))))))) (zP2 5 (zH (qX zVg rfl (yZ (gl ⋯) hT.range (zA (zX (zC 1 (pv 1)) (zE zF)) zG)) (zQ 11 hN ⋯ (.inl ⋯) (.inl rfl)) (zH (qE 12 (yo zG) hN ⋯ (.inl ⋯)) (zH (qX zVg rfl (zBK (zD 5 (pv 5))) (zAz rfl (zZ (zQ 8 hN ⋯ (.inr ⋯) (.inl rfl)) (zZ (zQ 9 hN ⋯ (.inl ⋯) (.inl rfl)) (zZ (zQ 6 hN ⋯ (.inl ⋯) (.inl rfl)) qY)))) (zH (yz (yG (yW hu) (zC 8 (pv 8)) (zC 11 (pv 11)) (zr _)) (zL (yR 12 (pv 12) (zU (zA zv (zA (zD 8 (pv 8)) (zA (zD 9 (pv 9)) (zA (zD 6 (pv 6)) zG))))))) z9) (zL (yz (yG (yW hu) (zC 9 (pv 9)) (zC 11 (pv 11)) (zr _)) (zL (yR 12 (pv 12) (zU (zA zv (zA (zD 8 (pv 8)) (zA (zD 9 (pv 9)) (zA (zD 6 (pv 6)) zG))))))) z9)))) (zL (yz (yG (zJm hu) (zE (zM h_law_deeds ∅ ⋯ rfl (zA (zD 11 (pv 11)) (zA (zEI 2 h_done hK ∅ (pv 2)) zG)))) (zC 12 (pv 12)) (zr _)) (zL (zw zFT)) z9))))) (zH (qX zVg rfl (yZ (gl ⋯) hT.range (zA (zX (zC 1 (pv 1)) (zE zF)) zG)) (zQ 8 hN ⋯ (.inr ⋯) (.inl rfl)) (zL (yz (zEc (zE (zg (qv (nm:=["_law_other"]) (m:=1) rfl rfl ⋯ ⋯ (yZ (gl ⋯) hT.range (zA (zX (zC 1 (pv 1)) (zE zF)) zG)) (yH (show 13<=13 by decide)) (λC s₃ H₃ ex=>(zQ 13 (yi (nm:=["_law_other"]) ⋯) ⋯ (.inl ⋯) (.inr ⋯))) (λC s₃ H₃ ex=>.inr ⟨_,rfl,(zTa (zJh (yG (zJm hu) (zC 8 (pv 8)) (zC 13 (pv 13)) (zr _)) (zGX (yG (zJm hu) (zE (zEs 2 h_row hK ∅ (pv 2) (zA (zD 8 (pv 8)) (zA (zD 13 (pv 13)) zG)) rfl)) (zE (zU zG)) (zr _)))))⟩) (λC s₃ H₃ ex=>(zD 13 (pv 13))))))) (zL (zw zFT)) z9))) (zL (zw zFT)))))))))))))
end
end K08
namespace K08
open PySem PySem.Spec PyProof.Rows L2 RD LG
def zNr (ds:List D):Option D:=by
 classical exact if ∃ ns:List Int,ds = [.lst (ns.map D.int)]/\ns.length<=63 then some (.bl true) else none
theorem zBi.fn {K:Fg} {f:Addr} {x q:Str} {st:Stmt} (h:zBi K f x q st):∃ fd,Fun K x q st f fd:=by
 obtain ⟨_,_,_,_,_,_,_,_,_,l,c,k⟩:=h
 exact ⟨_,zP0 l c k⟩
theorem zIN {us:List Value} (h:us.length=1):∃ a,us = [a]:=List.length_eq_one_iff.mp h
theorem zPo {us:List Value} {n:Nat} (h:us.length=n+1):∃ a l,us=a::l/\l.length=n:=by
 cases us with
 |nil=>cases h
 |cons a l=>exact ⟨a,l,rfl,Nat.succ.inj h⟩
theorem zBa {us:List Value} (h:us.length=2):∃ a b,us = [a,b]:=by
 obtain ⟨a,_,rfl,j⟩:=zPo h
 obtain ⟨b,rfl⟩:=zIN j
 exact ⟨a,b,rfl⟩
theorem zJT {us:List Value} (h:us.length=3):∃ a b c,us = [a,b,c]:=by
 obtain ⟨a,_,rfl,j⟩:=zPo h
 obtain ⟨b,c,rfl⟩:=zBa j
 exact ⟨a,b,c,rfl⟩
theorem zPp {us:List Value} (h:us.length=4):∃ a b c d,us = [a,b,c,d]:=by
 obtain ⟨a,_,rfl,j⟩:=zPo h
 obtain ⟨b,c,d,rfl⟩:=zJT j
 exact ⟨a,b,c,d,rfl⟩
theorem len_5 {us:List Value} (h:us.length=5):∃ a b c d e,us = [a,b,c,d,e]:=by
 obtain ⟨a,_,rfl,j⟩:=zPo h
 obtain ⟨b,c,d,e,rfl⟩:=zPp j
 exact ⟨a,b,c,d,e,rfl⟩
theorem all_mk {l:PySem.W.OpenLaw} {w:World} {K:Fg} {h:Heap} {mg:MGt} {fa:Addr} (X:K.In h) (G:h.Ns mainGlobals mg) (hfa:mg "law" = some (.ref fa)) (hF:zPq K)
  : ∃ fd:FuncData,(∀ (s:Shared) (v:Value),BindsTo s fd ⟨[v],[]⟩ [("_law_script",v)])/\∀ base:Heap,K.In base->base.Ns mainGlobals mg->zCe l.prog w K mg base CX0 9 fa fd ["_law_script"] (spD K zNr 1):=by
 refine hF _ @λC np f0 f1 f2 f3 f4 f5 f6 f7 f8 f9 f10 f11 f12 f13 f14 f15 f16 f17 f18 f19 f20 f21 f22 f23 f24 f25 f26 f27 f28 f29 f30 f31 f32 f33 f34 f35 odL anL slL ocL kVL dcL pmL cdL ctL aH aN a0 p0 a1 p1 a2 p2 a3 p3 a4 p4 a5 p5 a6 p6 a7 p7 a8 p8 a9 p9 a10 p10 a11 p11 a12 p12 a13 p13 a14 p14 a15 p15 a16 p16 a17 p17 a18 p18 a19 p19 a20 p20 k20 n20 a21 p21 a22 p22 a23 p23 a24 p24 a25 p25 k25 n25 a26 p26 k26 n26 a27 p27 k27 n27 a28 p28 k28 n28 a29 p29 k29 n29 a30 p30 k30 n30 a31 p31 k31 n31 a32 p32 a33 p33 a34 p34 k34 n34 a35 l35 c35 k35 z_len z_range z_enumerate z_sorted z_tuple z_list z_int z_dict z_isinstance z_all z_any z_str z_bool q1 q2 q3 q4 q5 q6 q7 q_parts q_at q_rows q_past=>?_
 have e:=hfa.symm.trans (zVL X G a35)
 cases e
 have hT:Bl mg:=⟨zVl X G z_len,zVl X G z_range,zVl X G z_enumerate,zVl X G z_sorted,zVl X G z_tuple,zVl X G z_list,zVl X G z_int,zVl X G z_dict,zVl X G z_isinstance,zVl X G z_all,zVl X G z_any,zVl X G z_str,zVl X G z_bool⟩
 have hM_Hall:mg "Hall" = some (.ref C):=zVL X G aH
 have hCl:Cl K mg C (λ_=>np):=⟨⟨q1,q2,q3,q4⟩,q_parts,q_at,q_rows,q_past,q7,zVL X G aN⟩
 obtain ⟨_,F0⟩:=p0.fn
 have b0:=F0.binds (ps:=["_law_cell_here","_law_prime","_law_many"]) λ_ _ _ _ _ _ us hl=>by obtain ⟨_,_,_,rfl⟩:=zJT hl;rfl
 obtain ⟨_,F1⟩:=p1.fn
 have b1:=F1.binds (ps:=["_law_script","_law_k"]) λ_ _ _ _ _ _ us hl=>by obtain ⟨_,_,rfl⟩:=zBa hl;rfl
 obtain ⟨_,F2⟩:=p2.fn
 have b2:=F2.binds (ps:=["_law_cell_here","_law_many"]) λ_ _ _ _ _ _ us hl=>by obtain ⟨_,_,rfl⟩:=zBa hl;rfl
 obtain ⟨_,F3⟩:=p3.fn
 have b3:=F3.binds (ps:=["_law_start","_law_goals","_law_one","_law_others","_law_words"]) λ_ _ _ _ _ _ us hl=>by obtain ⟨_,_,_,_,_,rfl⟩:=len_5 hl;rfl
 obtain ⟨_,F4⟩:=p4.fn
 have b4:=F4.binds (ps:=["_law_cell_here","_law_j"]) λ_ _ _ _ _ _ us hl=>by obtain ⟨_,_,rfl⟩:=zBa hl;rfl
 obtain ⟨_,F5⟩:=p5.fn
 have b5:=F5.binds (ps:=["_law_cell_here","_law_start","_law_many","_law_goals"]) λ_ _ _ _ _ _ us hl=>by obtain ⟨_,_,_,_,rfl⟩:=zPp hl;rfl
 obtain ⟨_,F6⟩:=p6.fn
 have b6:=F6.binds (ps:=["_law_cell_here","_law_many"]) λ_ _ _ _ _ _ us hl=>by obtain ⟨_,_,rfl⟩:=zBa hl;rfl
 obtain ⟨_,F7⟩:=p7.fn
 have b7:=F7.binds (ps:=["_law_cell_here","_law_here","_law_many","_law_goal"]) λ_ _ _ _ _ _ us hl=>by obtain ⟨_,_,_,_,rfl⟩:=zPp hl;rfl
 obtain ⟨_,F8⟩:=p8.fn
 have b8:=F8.binds (ps:=["_law_script"]) λ_ _ _ _ _ _ us hl=>by obtain ⟨_,rfl⟩:=zIN hl;rfl
 obtain ⟨_,F9⟩:=p9.fn
 have b9:=F9.binds (ps:=["place","dancer"]) λ_ _ _ _ _ _ us hl=>by obtain ⟨_,_,rfl⟩:=zBa hl;rfl
 obtain ⟨_,F10⟩:=p10.fn
 have b10:=F10.binds (ps:=["place","dancer"]) λ_ _ _ _ _ _ us hl=>by obtain ⟨_,_,rfl⟩:=zBa hl;rfl
 obtain ⟨_,F11⟩:=p11.fn
 have b11:=F11.binds (ps:=["dance","dancer","some"]) λ_ _ _ _ _ _ us hl=>by obtain ⟨_,_,_,rfl⟩:=zJT hl;rfl
 obtain ⟨_,F12⟩:=p12.fn
 have b12:=F12.binds (ps:=["place"]) λ_ _ _ _ _ _ us hl=>by obtain ⟨_,rfl⟩:=zIN hl;rfl
 obtain ⟨_,F13⟩:=p13.fn
 have b13:=F13.binds (ps:=["dance","dancer","some"]) λ_ _ _ _ _ _ us hl=>by obtain ⟨_,_,_,rfl⟩:=zJT hl;rfl
 obtain ⟨_,F14⟩:=p14.fn
 have b14:=F14.binds (ps:=["dance","dancer"]) λ_ _ _ _ _ _ us hl=>by obtain ⟨_,_,rfl⟩:=zBa hl;rfl
 obtain ⟨_,F15⟩:=p15.fn
 have b15:=F15.binds (ps:=["dancer","some","turns","vain"]) λ_ _ _ _ _ _ us hl=>by obtain ⟨_,_,_,_,rfl⟩:=zPp hl;rfl
 obtain ⟨_,F16⟩:=p16.fn
 have b16:=F16.binds (ps:=["turn","dancer"]) λ_ _ _ _ _ _ us hl=>by obtain ⟨_,_,rfl⟩:=zBa hl;rfl
 obtain ⟨_,F17⟩:=p17.fn
 have b17:=F17.binds (ps:=["turns","dancer"]) λ_ _ _ _ _ _ us hl=>by obtain ⟨_,_,rfl⟩:=zBa hl;rfl
 obtain ⟨_,F18⟩:=p18.fn
 have b18:=F18.binds (ps:=["turns"]) λ_ _ _ _ _ _ us hl=>by obtain ⟨_,rfl⟩:=zIN hl;rfl
 obtain ⟨_,F19⟩:=p19.fn
 have b19:=F19.binds (ps:=["dance","dancer"]) λ_ _ _ _ _ _ us hl=>by obtain ⟨_,_,rfl⟩:=zBa hl;rfl
 obtain ⟨_,F20⟩:=p20.fn
 have b20:=F20.binds (ps:=["self","dance"]) λ_ _ _ _ _ _ us hl=>by obtain ⟨_,_,rfl⟩:=zBa hl;rfl
 obtain ⟨_,F21⟩:=p21.fn
 have b21:=F21.binds (ps:=["_law_dance_here"]) λ_ _ _ _ _ _ us hl=>by obtain ⟨_,rfl⟩:=zIN hl;rfl
 obtain ⟨_,F22⟩:=p22.fn
 have b22:=F22.binds (ps:=["_law_dance_here","_law_script","_law_k"]) λ_ _ _ _ _ _ us hl=>by obtain ⟨_,_,_,rfl⟩:=zJT hl;rfl
 obtain ⟨_,F23⟩:=p23.fn
 have b23:=F23.binds (ps:=["_law_dance_here","_law_cell_here"]) λ_ _ _ _ _ _ us hl=>by obtain ⟨_,_,rfl⟩:=zBa hl;rfl
 obtain ⟨_,F24⟩:=p24.fn
 have b24:=F24.binds (ps:=["thing"]) λ_ _ _ _ _ _ us hl=>by obtain ⟨_,rfl⟩:=zIN hl;rfl
 obtain ⟨_,F25⟩:=p25.fn
 have b25:=F25.binds (ps:=["self","dancer"]) λ_ _ _ _ _ _ us hl=>by obtain ⟨_,_,rfl⟩:=zBa hl;rfl
 obtain ⟨_,F26⟩:=p26.fn
 have b26:=F26.binds (ps:=["self","one","other"]) λ_ _ _ _ _ _ us hl=>by obtain ⟨_,_,_,rfl⟩:=zJT hl;rfl
 obtain ⟨_,F27⟩:=p27.fn
 have b27:=F27.binds (ps:=["self","dancer"]) λ_ _ _ _ _ _ us hl=>by obtain ⟨_,_,rfl⟩:=zBa hl;rfl
 obtain ⟨_,F28⟩:=p28.fn
 have b28:=F28.binds (ps:=["self"]) λ_ _ _ _ _ _ us hl=>by obtain ⟨_,rfl⟩:=zIN hl;rfl
 obtain ⟨_,F29⟩:=p29.fn
 have b29:=F29.binds (ps:=["self","move"]) λ_ _ _ _ _ _ us hl=>by obtain ⟨_,_,rfl⟩:=zBa hl;rfl
 obtain ⟨_,F30⟩:=p30.fn
 have b30:=F30.binds (ps:=["self","dancer","word"]) λ_ _ _ _ _ _ us hl=>by obtain ⟨_,_,_,rfl⟩:=zJT hl;rfl
 obtain ⟨_,F31⟩:=p31.fn
 have b31:=F31.binds (ps:=["self","move"]) λ_ _ _ _ _ _ us hl=>by obtain ⟨_,_,rfl⟩:=zBa hl;rfl
 obtain ⟨_,F32⟩:=p32.fn
 have b32:=F32.binds (ps:=["_law_hall_here","_law_some"]) λ_ _ _ _ _ _ us hl=>by obtain ⟨_,_,rfl⟩:=zBa hl;rfl
 obtain ⟨_,F33⟩:=p33.fn
 have b33:=F33.binds (ps:=["_law_dancer","_law_done"]) λ_ _ _ _ _ _ us hl=>by obtain ⟨_,_,rfl⟩:=zBa hl;rfl
 obtain ⟨_,F34⟩:=p34.fn
 have b34:=F34.binds (ps:=["self"]) λ_ _ _ _ _ _ us hl=>by obtain ⟨_,rfl⟩:=zIN hl;rfl
 have F35:=zP0 (st:=zGL) l35 c35 k35
 refine ⟨PySem.W.fnOf "law" "law" (zCZ zGL) (z8 zGL) (zI zGL) .none kVL dcL pmL anL cdL ctL,λs v=>.of_eq rfl,λbase _ _=>?_⟩
 have h_law_mix:yA l.prog w K mg base 1 "_law_mix" 3 zT:=qP F0 (zVL X G a0) b0 zK6 (zNm  hT hCl) (λ_ _ _ h=>h)
 have h_law_cell:yA l.prog w K mg base 1 "_law_cell" 2 z7:=qP F1 (zVL X G a1) b1 zJM (zK7  hT hCl) (λ_ _ _ h=>h)
 have h_law_is_late:yA l.prog w K mg base 1 "_law_is_late" 2 yS:=qP F2 (zVL X G a2) b2 zFd (zHA  hT hCl) (λ_ _ _ h=>h)
 have h_law_told_late:yA l.prog w K mg base 1 "_law_told_late" 5 zk:=qP F3 (zVL X G a3) b3 zBf (zFK  hT hCl) (λ_ _ _ h=>h)
 have h_law_word:yA l.prog w K mg base 2 "_law_word" 2 yM:=qP F4 (zVL X G a4) b4 zFL (zK8 h_law_mix hT hCl) (λ_ _ _ h=>h)
 have h_law_told_on:yA l.prog w K mg base 3 "_law_told_on" 4 zY:=qP F5 (zVL X G a5) b5 zCX (zHB h_law_mix h_law_is_late h_law_told_late h_law_word hT hCl) (λ_ _ _ h=>h)
 have h_law_size:yA l.prog w K mg base 2 "_law_size" 2 zA4:=qP F6 (zVL X G a6) b6 zFM (zK9 h_law_is_late h_law_mix hT hCl) (λ_ _ _ h=>h)
 have h_law_apart_two:yA l.prog w K mg base 3 "_law_apart_two" 4 yK:=qP F7 (zVL X G a7) b7 zBg (zFN h_law_mix h_law_word hT hCl) (λ_ _ _ h=>h)
 have h_law_dance:yA l.prog w K mg base 4 "_law_dance" 1 qa:=qP F8 (zVL X G a8) b8 zD5 (zJN h_law_mix h_law_cell h_law_told_on h_law_size h_law_apart_two hT hCl) (λ_ _ _ h=>h)
 have h_takes_part:yA l.prog w K mg base 1 "takes_part" 2 yg:=qP F9 (zVL X G a9) b9 zHC (zIK  hT hCl) (λ_ _ _ h=>h)
 have h_is_turn:yA l.prog w K mg base 2 "is_turn" 2 zA8:=qP F10 (zVL X G a10) b10 zLA (zNn h_takes_part hT hCl) (λ_ _ _ h=>h)
 have h_turns_among:yA l.prog w K mg base 3 "turns_among" 3 yT:=qP F11 (zVL X G a11) b11 zCY (zHD h_is_turn hT hCl) (λ_ _ _ h=>h)
 have h_choices_of:yA l.prog w K mg base 1 "choices_of" 1 yf:=qP F12 (zVL X G a12) b12 zHE (zIL  hT hCl) (λ_ _ _ h=>h)
 have h_apart:yA l.prog w K mg base 2 "apart" 3 qT:=qP F13 (zVL X G a13) b13 zKW (zSj h_takes_part h_choices_of hT hCl) (λ_ _ _ h=>h)
 have h_in_vain:zRk l.prog w K mg base 4 "in_vain" 2 ql:=⟨_,_,_,zMb F14 zGH (zNo h_turns_among h_apart hT hCl) (λ_ _ _ h=>h),zVL X G a14,F14.kp,b14⟩
 have h_refuse_waiting_in_vain:zRv l.prog w K mg base (λ_=>np) 1 "refuse_waiting_in_vain" 4 zq:=⟨_,_,_,zRu F15 zAt (zBB  hT hCl) (λa _ _ _ _ h=>qR h a),zVL X G a15,F15.kp,b15⟩
 have h_asked_at:yA l.prog w K mg base 1 "asked_at" 2 qc:=qP F16 (zVL X G a16) b16 zJO (zLB  hT hCl) (λ_ _ _ h=>h)
 have h_asked_at_all:zTy l.prog w K mg base (λ_=>np) 2 "asked_at_all" 2 yJ:=⟨_,_,_,zQG F17 zCB (zFe h_asked_at hT hCl) (λ_ _ _ h=>h),zVL X G a17,F17.kp,b17⟩
 have h_nexts_by_word:zRk l.prog w K mg base 2 "nexts_by_word" 1 yr:=⟨_,_,_,zMb F18 zBh (zFO h_choices_of hT hCl) (λ_ _ _ h=>h),zVL X G a18,F18.kp,b18⟩
 have h_part_of:zTy l.prog w K mg base (λ_=>np) 5 "part_of" 2 qA:=⟨_,_,_,zQG F19 zGI (zNp h_in_vain h_apart h_turns_among h_refuse_waiting_in_vain h_asked_at_all h_nexts_by_word hT hCl) (λ_ _ _ h=>h),zVL X G a19,F19.kp,b19⟩
 have FO_init:=zR4 (κ:=λ_=>np) (f:=(zFB C)) F20 zSk (zUo h_part_of hT hCl) (λa _ _ _ _ h=>qR h a)
 have hMk:Mk K C f20:=⟨q5,a20,n20,q6⟩
 have hB_init:=b20
 have h_law_hall:zRk l.prog w K mg base 8 "_law_hall" 1 (zAE C):=⟨_,_,_,zMb F21 zFP (zLC hMk FO_init hB_init hM_Hall hT hCl) (λ_ _ _ h=>h),zVL X G a21,F21.kp,b21⟩
 have h_law_way:yA l.prog w K mg base 2 "_law_way" 3 zCA:=qP F22 (zVL X G a22) b22 zGJ (zNq h_law_mix hT hCl) (λ_ _ _ h=>h)
 have h_law_spoilt:yA l.prog w K mg base 2 "_law_spoilt" 2 qK:=qP F23 (zVL X G a23) b23 zDI (zIM h_law_mix hT hCl) (λ_ _ _ h=>h)
 have h_is_whole:yA l.prog w K mg base 1 "is_whole" 1 zAD:=qP F24 (zVL X G a24) b24 zJP (zLD  hT hCl) (λ_ _ _ h=>h)
 have h_state_of:zIP l.prog w K mg base C 1 "state_of" 2 (yw C):=⟨_,_,_,zHp F25 zJQ (zLE  hT hCl) (λa _ _ _ _ h=>qR h a),⟨a25,n25,k25⟩,b25⟩
 have h_row:zIP l.prog w K mg base C 1 "row" 3 (zG3 C):=⟨_,_,_,zHp F26 zUp (d_row  hT hCl) (λa _ _ _ _ h=>qR h a),⟨a26,n26,k26⟩,b26⟩
 have h_moves_of:zR2 l.prog w K mg base C 2 "moves_of" 2 (zBA C):=⟨_,_,_,zR1 F27 zFQ (zLF h_state_of h_row hT hCl) (λa _ _ _ _ h=>qR h a),⟨a27,n27,k27⟩,b27⟩
 have h_moves:zIP l.prog w K mg base C 3 "moves" 1 (zAs C):=⟨_,_,_,zHp F28 zKX (zSl h_moves_of hT hCl) (λa _ _ _ _ h=>qR h a),⟨a28,n28,k28⟩,b28⟩
 have h_can_be_done:zIP l.prog w K mg base C 4 "can_be_done" 2 (yx C):=⟨_,_,_,zHp F29 zFf (zHF h_is_whole h_moves hT hCl) (λa _ _ _ _ h=>qR h a),⟨a29,n29,k29⟩,b29⟩
 have h_go_on:zSq l.prog w K mg base C 2 "go_on" 3 (zB9 C):=⟨_,_,_,zQI F30 zPn (zSm h_state_of hT hCl) (λa _ _ _ _ h=>qR h a),⟨a30,n30,k30⟩,b30⟩
 have h_do:zSq l.prog w K mg base C 5 "do" 2 (zNv C):=⟨_,_,_,zQI F31 zUq (d_do h_can_be_done h_go_on hT hCl) (λa _ _ _ _ h=>qR h a),⟨a31,n31,k31⟩,b31⟩
 have h_law_heard:zR0 l.prog w K mg base 6 "_law_heard" 2 (zBZ C):=⟨_,_,_,zRz F32 zD6 (zJR h_do h_moves hT hCl) (λa _ _ _ _ h=>qR h a),zVL X G a32,F32.kp,b32⟩
 have h_law_deeds:yA l.prog w K mg base 1 "_law_deeds" 2 zBW:=qP F33 (zVL X G a33) b33 zD7 (zJS  hT hCl) (λ_ _ _ h=>h)
 have h_done:zIP l.prog w K mg base C 1 "done" 1 (zIA C):=⟨_,_,_,zHp F34 zSn (zUr  hT hCl) (λa _ _ _ _ h=>qR h a),⟨a34,n34,k34⟩,b34⟩
 exact zTg F35 zQd (d_law h_law_dance h_law_hall h_law_way h_law_spoilt h_do h_law_cell h_moves h_law_heard h_law_deeds h_done h_row hT hCl) (λds d _ h=>by
  unfold zNr at h
  split at h
  ·rename_i q
   obtain ⟨ns,rfl,hl⟩:=q
   cases h
   exact law_is C ns hl
  ·cases h)
theorem walk {l:PySem.W.OpenLaw} {q:Program} {loose:List Str} {XP:(Str->Option Value)->Heap->Prop} {YP:World->Heap->Prop} {d:DefRec} {K:Params->Fg} (hn:l.most=some 63) (hdf:d.params.defaults = [])
  (hY:∀ (w:World) (h:Heap),YP w h->(K w.params).In h)
  (F:∀ (w:World) (mg:MGt) (fa:Addr) (h:Heap),(K w.params).In h->h.Ns mainGlobals mg->mg d.name=some (.ref fa) ->
   ∃ fd:FuncData,(∀ (s:Shared) (u:Value),BindsTo s fd ⟨[u],[]⟩ [("_law_script",u)])/\∀ base:Heap,(K w.params).In base->base.Ns mainGlobals mg->zCe l.prog w (K w.params) mg base CX0 9 fa fd ["_law_script"] (spD (K w.params) zNr 1)) :
  PySem.W.WalkO q loose XP YP l.row.toRowW d [] (λf vs=>PySem.call f vs):=
 L2.zLs (n:=63) (k:=9) (x:="_law_script") (CX:=λ_=>CX0) (sp:=λw=>spD (K w.params) zNr 1) hn (by decide) hdf ⟨rfl,by decide,by decide⟩ hY F (λw H a ns hl _ hS=>by
  refine ⟨H,[.lst (ns.map D.int)],.bl true,zf.refl _,Reps.cons (zAL.mpr ⟨a,_,rfl,hS,Reps.ints ns⟩) Reps.nil,rfl,?_,λv G' H' _ r=>yO.mp r⟩
  unfold zNr
  exact zVE ⟨ns,rfl,hl⟩) λ_ _ _ _ _ z=>z
end K08
end
open PySem PySem.W PyProof.Rows
theorem PySem.Challenge.cw_reelhall_k08_whole_each_way_can_be_dance_holds : PySem.Challenge.rw_reelhall_k08_whole_each_way_can_be_dance.Holds :=
 K08.headT λhdf hdn hY hF=>K08.walk (l:=PySem.Challenge.rw_reelhall_k08_whole_each_way_can_be_dance) rfl hdf hY λw mg fa h KX G hmg=>K08.all_mk KX G (hdn ▸ hmg) (hF w)
