import PyProof.Rows.All
import Wide.All
import OpenK.AllK
import Wide.FinOn
import Lean
import PyProof.EqAt
import PyProof.EqKinds
import PyProof.TupleCall
import PyProof.NeKinds
import PyProof.Rows.SortStr
import PyProof.Rows.SortWalk
import KE.KDictOf
import PyProof.AttrMissSeq
import KE.KDictSum
import PyProof.ListMulRoad
import PyProof.FactsAll.tuple_2
import OpenK.KRaise
import PyProof.ExcClass3
import PyProof.StationsW
import PyProof.PassesOwn
import PyProof.ExcBaseAll.ValueError
import OpenK.KOwn
import KE.KDictLaws
import PyProof.DictFindH
import PyProof.DictRoadsH
import PyProof.Rows.TupDisplay
import PyProof.Rows.SetFrom
import PyProof.DictIter
import OpenK.KNot
import PyProof.NsDelKeeps
import PyProof.RulesAs
import PySem.Challenge.RW_reelhall_k04_whole_parts_by_hand
set_option Elab.async false
set_option linter.all false
set_option maxRecDepth 100000
set_option maxHeartbeats 8000000
set_option bootstrap.genMatcherCode false
noncomputable section
abbrev Fg:=PySem.W.Frag
abbrev MGt:=PySem.Str->Option PySem.Value
abbrev PNt:=List (PySem.Addr×PySem.Obj)
abbrev VSt:=PySem.Value->PySem.Shared->Prop
namespace L2
open PySem
def zCY (s:Stmt):Arguments:=match s with
 |.FunctionDef _ a _ _ _ _ _ _ _ _=>a
 |_=>{ posonlyargs:=[],args:=[],vararg:=none,kwonlyargs:=[],kw_defaults:=[],kwarg:=none,defaults:=[] }
def ye (s:Stmt):List Stmt:=match s with
 |.FunctionDef _ _ b _ _ _ _ _ _ _=>b
 |_=>[]
def zI (s:Stmt):Scope:=match s with
 |.FunctionDef _ _ _ _ _ _ sc _ _ _=>sc
 |_=>{ kind:=.function,names:=[],isGenerator:=false,isCoroutine:=false }
end L2
namespace K04
open PySem PySem.Spec PyProof.Rows L2
def top (i:Nat):Stmt:=PySem.Challenge.pw_reelhall_k04_whole_parts_by_hand.main.body.getD i (.Pass ⟨0,0,0,0⟩)
abbrev zER:Stmt:=top 21
abbrev zDN:Stmt:=top 20
abbrev zBI:Stmt:=top 23
abbrev zAP:Stmt:=top 25
abbrev zDO:Stmt:=top 22
abbrev zBJ:Stmt:=top 26
abbrev zDP:Stmt:=top 24
abbrev zAQ:Stmt:=top 27
abbrev zCZ:Stmt:=top 28
abbrev zBp:Stmt:=top 7
abbrev zES:Stmt:=top 10
abbrev zBK:Stmt:=top 11
abbrev zBq:Stmt:=top 5
abbrev zHs:Stmt:=top 8
abbrev zET:Stmt:=top 15
abbrev yU:Stmt:=top 16
abbrev zDQ:Stmt:=top 12
abbrev zAx:Stmt:=top 13
abbrev zAR:Stmt:=top 14
abbrev zEU:Stmt:=top 17
abbrev zEV:Stmt:=top 18
abbrev zEW:Stmt:=top 36
abbrev zCa:Stmt:=top 30
abbrev zCb:Stmt:=top 32
abbrev zCc:Stmt:=top 31
abbrev zCd:Stmt:=top 33
abbrev zDR:Stmt:=top 34
abbrev zBr:Stmt:=top 29
abbrev zAS:Stmt:=top 35
abbrev zF6:Stmt:=top 37
abbrev zCe (K:Fg) (f:Addr) (x q:Str) (st:Stmt):Prop:=∃ oc od kV dc pm an cd ct sl,K.lookup f=some ⟨oc,od,.func (PySem.W.fnOf x q (zCY st) (ye st) (zI st) .none kV dc pm an cd ct),sl⟩/\PySem.W.codeIn K cd q=true/\PySem.W.keepIn K (.ref f)=true
abbrev Gb (K:Fg) (x:Str) (f:Addr):Prop:=PySem.W.nsIn K mainGlobals x=some (some (.ref f))
abbrev Nb (K:Fg) (x:Str):Prop:=PySem.W.nsIn K mainGlobals x=some none
def zOf (K:Fg):Prop:=∀ P:Prop,(∀ {np nv re f0 f1 f2 f3 f4 f5 f6 f7 f8 f9 f10 f11 f12 f13 f14 f15 f16 f17 f18 f19 f20 f21 f22 f23 f24 f25 f26 f27 f28 f29:Addr}
  {odL anL:Option Addr} {slL:Array (Option Value)} {ocL kVL dcL pmL cdL ctL:Value}
  (aN:Gb K "NoPart" np) (aV:Gb K "NoMove" nv) (aR:Gb K "ReelError" re)
  (a0:Gb K "_law_mix" f0) (p0:zCe K f0 "_law_mix" "_law_mix" zER)
  (a1:Gb K "_law_cell" f1) (p1:zCe K f1 "_law_cell" "_law_cell" zDN)
  (a2:Gb K "_law_is_late" f2) (p2:zCe K f2 "_law_is_late" "_law_is_late" zBI)
  (a3:Gb K "_law_told_late" f3) (p3:zCe K f3 "_law_told_late" "_law_told_late" zAP)
  (a4:Gb K "_law_word" f4) (p4:zCe K f4 "_law_word" "_law_word" zDO)
  (a5:Gb K "_law_told_on" f5) (p5:zCe K f5 "_law_told_on" "_law_told_on" zBJ)
  (a6:Gb K "_law_size" f6) (p6:zCe K f6 "_law_size" "_law_size" zDP)
  (a7:Gb K "_law_apart_two" f7) (p7:zCe K f7 "_law_apart_two" "_law_apart_two" zAQ)
  (a8:Gb K "_law_dance" f8) (p8:zCe K f8 "_law_dance" "_law_dance" zCZ)
  (a9:Gb K "takes_part" f9) (p9:zCe K f9 "takes_part" "takes_part" zBp)
  (a10:Gb K "is_turn" f10) (p10:zCe K f10 "is_turn" "is_turn" zES)
  (a11:Gb K "turns_among" f11) (p11:zCe K f11 "turns_among" "turns_among" zBK)
  (a12:Gb K "choices_of" f12) (p12:zCe K f12 "choices_of" "choices_of" zBq)
  (a13:Gb K "apart" f13) (p13:zCe K f13 "apart" "apart" zHs)
  (a14:Gb K "in_vain" f14) (p14:zCe K f14 "in_vain" "in_vain" zET)
  (a15:Gb K "refuse_waiting_in_vain" f15) (p15:zCe K f15 "refuse_waiting_in_vain" "refuse_waiting_in_vain" yU)
  (a16:Gb K "asked_at" f16) (p16:zCe K f16 "asked_at" "asked_at" zDQ)
  (a17:Gb K "asked_at_all" f17) (p17:zCe K f17 "asked_at_all" "asked_at_all" zAx)
  (a18:Gb K "nexts_by_word" f18) (p18:zCe K f18 "nexts_by_word" "nexts_by_word" zAR)
  (a19:Gb K "part_of" f19) (p19:zCe K f19 "part_of" "part_of" zEU)
  (a20:Gb K "is_fair" f20) (p20:zCe K f20 "is_fair" "is_fair" zEV)
  (a21:Gb K "_law_sly" f21) (p21:zCe K f21 "_law_sly" "_law_sly" zEW)
  (a22:Gb K "_law_apart" f22) (p22:zCe K f22 "_law_apart" "_law_apart" zCa)
  (a23:Gb K "_law_turns" f23) (p23:zCe K f23 "_law_turns" "_law_turns" zCb)
  (a24:Gb K "_law_kinds" f24) (p24:zCe K f24 "_law_kinds" "_law_kinds" zCc)
  (a25:Gb K "_law_state" f25) (p25:zCe K f25 "_law_state" "_law_state" zCd)
  (a26:Gb K "_law_part" f26) (p26:zCe K f26 "_law_part" "_law_part" zDR)
  (a27:Gb K "_law_spoilt" f27) (p27:zCe K f27 "_law_spoilt" "_law_spoilt" zBr)
  (a28:Gb K "_law_told_part" f28) (p28:zCe K f28 "_law_told_part" "_law_told_part" zAS)
  (a29:Gb K "law" f29) (l29:K.lookup f29=some ⟨ocL,odL,.func (PySem.W.fnOf "law" "law" (zCY zF6) (ye zF6) (zI zF6) .none kVL dcL pmL anL cdL ctL),slL⟩) (c29:PySem.W.codeIn K cdL "law" = true) (k29:PySem.W.keepIn K (.ref f29)=true)
  (z_len:Nb K "len")
  (z_range:Nb K "range")
  (z_enumerate:Nb K "enumerate")
  (z_sorted:Nb K "sorted")
  (z_tuple:Nb K "tuple")
  (z_list:Nb K "list")
  (z_int:Nb K "int")
  (z_dict:Nb K "dict")
  (z_isinstance:Nb K "isinstance")
  (z_all:Nb K "all")
  (z_any:Nb K "any")
  (z_str:Nb K "str")
  (z_bool:Nb K "bool")
  (q7:PySem.W.excIn K np [.type "ValueError",.type "Exception",.type "BaseException",.type "object"] "ValueError.__new__" = true)
  (x1:PySem.W.findIn K (.ref np) "__getattribute__" = some (some (.builtin "BaseException.__getattribute__")))
  (x2:PySem.W.findIn K (.ref np) "__getattr__" = some none)
  (x3:PySem.W.findIn K (.ref np) "__class__" = some (some (.builtin "object.__class__")))
  (x4:PySem.W.subIn K (.ref np) (.type "BaseException")=some true)
  (x5:PySem.W.subIn K (.ref np) (.type "object")=some true)
  (x6:PySem.W.subIn K (.ref np) (.ref re)=some true)
  (x7:PySem.W.subIn K (.ref re) (.type "BaseException")=some true)
  (x8:PySem.W.instIn K (.ref re) (.type "tuple")=some false)
  (x9:PySem.W.subIn K (.ref np) (.type "ValueError")=some true)
  (y0:PySem.W.subIn K (.ref np) (.ref nv)=some false)
  (y1:(np == nv)=false)
  (y2:(PySem.W.clsIn K nv).isSome=true)
  (y3:PySem.W.typeIn K (.ref nv)=some (.type "type"))
  (y4:PySem.W.instIn K (.ref nv) (.type "type")=some true)
  (y5:(PySem.W.clsIn K re).isSome=true)
  (y6:(PySem.W.clsIn K np).isSome=true)
  (y7:PySem.W.instIn K (.ref np) (.type "type")=some true)
  (z_set:Nb K "set")
  (z_ValueError:Nb K "ValueError")
  ,P)->P
open PySem.W
local macro_rules | `(tactic| refine $h:ident $a1 $a2 $a3 $a4 $a5 $a6 $a7 $a8 ?$z:ident $r*) => do let r := r.pop.push (← `($(Lean.mkIdent `wkT) rfl rfl (fun _ _ Y => kIn_of Y) ?hf)); `(tactic| refine' $h $a1 $a2 $a3 $a4 $a5 $a6 $a7 $a8 ?hx $r*)
set_option maxHeartbeats 0 in
theorem headT (wkT:∀ {q:Program} {loose:List Str} {XP:(Str->Option Value)->Heap->Prop} {YP:World->Heap->Prop} {d:DefRec} {K:Params->Fg},d.params.defaults = []->d.name = "law"->(∀ (w:World) (h:Heap),YP w h->(K w.params).In h)->(∀ w:World,zOf (K w.params)) ->
  PySem.W.WalkO q loose XP YP PySem.Challenge.rw_reelhall_k04_whole_parts_by_hand.row.toRowW d [] (λf vs=>PySem.call f vs)):PySem.Challenge.rw_reelhall_k04_whole_parts_by_hand.Holds:=by
 w_on;o_law;k_head
 ·intro w;kernel_rfl
 (case hw=>w_witness2)
 k_fill
 intro w P k
 refine' k ?_ ?_ ?_ ?_ ?_ ?_ ?_ ?_ ?_ ?_ ?_ ?_ ?_ ?_ ?_ ?_ ?_ ?_ ?_ ?_ ?_ ?_ ?_ ?_ ?_ ?_ ?_ ?_ ?_ ?_ ?_ ?_ ?_ ?_ ?_ ?_ ?_ ?_ ?_ ?_ ?_ ?_ ?_ ?_ ?_ ?_ ?_ ?_ ?_ ?_ ?_ ?_ ?_ ?_ ?_ ?_ ?_ ?_ ?_ ?_ ?_ ?_ ?_ ?_ ?_ ?_ ?_ ?_ ?_ ?_ ?_ ?_ ?_ ?_ ?_ ?_ ?_ ?_ ?_ ?_ ?_ ?_ ?_ ?_ ?_ ?_ ?_ ?_ ?_ ?_ ?_ ?_ ?_ ?_ ?_ ?_ ?_ ?_
 all_goals try first|k_is|(show PySem.W.nsIn _ _ _=_;k_is)|(show PySem.W.findIn _ _ _=_;k_is)|exact ⟨_,_,_,_,_,_,_,_,_,by k_is,by k_is,by k_is⟩|kernel_rfl
end K04
namespace L2
open PySem PySem.Spec PyProof.Rows
abbrev Key:=Sum Int Str
def zHt:Key->Value->Bool
 |.inl k,v=>Value.isInt k v
 |.inr x,v=>Value.isStrOf x v
def keyH (w:World):Key->Int
 |.inl k=>hashInt k
 |.inr x=>hashStr w x
theorem yO:∀ {k:Key} {v:Value},zHt k v=true->(∃ i t,k=Sum.inl i/\v=Value.int i t)\/(∃ x t,k=Sum.inr x/\v=Value.str x t)
 |.inl i,v,h=>by
  obtain ⟨t,e⟩:=Value.isInt_shape (k:=i) (v:=v) h
  exact .inl ⟨i,t,rfl,e⟩
 |.inr x,v,h=>by
  obtain ⟨t,e⟩:=Value.isStrOf_shape (x:=x) (v:=v) h
  exact .inr ⟨x,t,rfl,e⟩
theorem zKP (i:Int) (t:Tok):zHt (.inl i) (.int i t)=true:=by simp [zHt,Value.isInt]
theorem zKQ (x:Str) (t:Tok):zHt (.inr x) (.str x t)=true:=by simp [zHt,Value.isStrOf]
theorem zRx (a b:Int):decide ((Sum.inl a:Key)=Sum.inl b)=(a == b):=by
 by_cases e:a=b
 ·subst e;simp
 ·have h:¬ (Sum.inl a:Key)=Sum.inl b:=λq=>e (Sum.inl.inj q)
  rw [decide_eq_false h]
  exact (beq_eq_false_iff_ne.mpr e).symm
theorem zRy (a b:Str):decide ((Sum.inr a:Key)=Sum.inr b)=decide (a=b):=by
 by_cases e:a=b
 ·subst e;simp
 ·have h:¬ (Sum.inr a:Key)=Sum.inr b:=λq=>e (Sum.inr.inj q)
  rw [decide_eq_false h,decide_eq_false e]
theorem zRz (a:Int) (b:Str):decide ((Sum.inl a:Key)=Sum.inr b)=false:=decide_eq_false (λq=>nomatch q)
theorem zR0 (a:Str) (b:Int):decide ((Sum.inr a:Key)=Sum.inl b)=false:=decide_eq_false (λq=>nomatch q)
def yP (prog:Program) (w:World):PySem.KeyKind prog w Key where
 is:=zHt
 hash:=keyH w
 inj:=λv a b ha hb=>by
  rcases yO ha with ⟨i,t,rfl,rfl⟩|⟨x,t,rfl,rfl⟩
  ·rcases yO hb with ⟨j,u,rfl,e⟩|⟨y,u,rfl,e⟩
   ·injection e with e1 _;rw [e1]
   ·exact nomatch e
  ·rcases yO hb with ⟨j,u,rfl,e⟩|⟨y,u,rfl,e⟩
   ·exact nomatch e
   ·injection e with e1 _;rw [e1]
 byValue:=λk v h=>by
  rcases yO h with ⟨i,t,rfl,rfl⟩|⟨x,t,rfl,rfl⟩<;>rfl
 pyHash:=λhv h=>by
  rcases yO hv with ⟨i,t,rfl,rfl⟩|⟨x,t,rfl,rfl⟩
  ·exact wpAny_pyHash_int h
  ·exact wpAny_pyHash_str h
 eqBool:=λhu hv h=>by
  rcases yO hu with ⟨i,t,rfl,rfl⟩|⟨x,t,rfl,rfl⟩
  ·rcases yO hv with ⟨j,u,rfl,rfl⟩|⟨y,u,rfl,rfl⟩
   ·rw [zRx] at h;exact wpAny_eqBool_int h
   ·rw [zRz] at h;exact SeqAt.EqAt.int_str i t y u _ _ _ _ h
  ·rcases yO hv with ⟨j,u,rfl,rfl⟩|⟨y,u,rfl,rfl⟩
   ·rw [zR0] at h;exact SeqAt.EqAt.str_int x t j u _ _ _ _ h
   ·rw [zRy] at h;exact wpAny_eqBool_str h
 «strs»:=λk x t v h=>by
  rcases yO h with ⟨i,u,rfl,e⟩|⟨y,u,rfl,e⟩
  ·exact nomatch e
  ·injection e with e1 _
   subst e1
   cases v<;>rfl
theorem zHu (prog:Program) (w:World) (i:Int) (t:Tok):(yP prog w).is (.inl i) (.int i t)=true:=zKP i t
theorem zHv (prog:Program) (w:World) (x:Str) (t:Tok):(yP prog w).is (.inr x) (.str x t)=true:=zKQ x t
end L2
namespace L2
open PySem PySem.Spec PyProof.Rows
inductive V where
 |non|bl (b:Bool)|int (i:Int)|str (x:Str)|byt (b:Array UInt8)|flt (b:UInt64)|ref (a:Addr)|ty (n:String)
 deriving DecidableEq
def y8:V->Value->Prop
 |.non,u=>u=Value.none
 |.bl b,u=>u=Value.bool b
 |.int i,u=>∃ t,u=Value.int i t
 |.str x,u=>∃ t,u=Value.str x t
 |.byt b,u=>∃ t,u=Value.bytes b t
 |.flt b,u=>∃ t,u=Value.float b t
 |.ref a,u=>u=Value.ref a
 |.ty n,u=>u=Value.type n
abbrev yI:List V->List Value->Prop:=Paired y8
theorem yI.length {xs:List V} {us:List Value} (r:yI xs us):xs.length=us.length:=Paired.length r
theorem yI.get:∀ {xs:List V} {us:List Value} {i:Nat} {x:V},yI xs us->xs[i]?=some x->∃ u,us[i]?=some u/\y8 x u
 |_,_,_,_,.nil,e=>by simp at e
 |_,_,0,_,.cons r _,e=>by simp at e;subst e;exact ⟨_,rfl,r⟩
 |_,_,i+1,x,.cons _ t,e=>by
  obtain ⟨u,h1,h2⟩:=yI.get (i:=i) (x:=x) t (by simpa using e)
  exact ⟨u,by simpa using h1,h2⟩
theorem yI.set (r:y8 x u):∀ {xs:List V} {us:List Value} (i:Nat),yI xs us->yI (xs.set i x) (us.set i u)
 |_,_,_,.nil=>.nil
 |_,_,0,.cons _ t=>.cons r t
 |_,_,i+1,.cons q t=>.cons q (yI.set r i t)
theorem yI.append:∀ {xs ys:List V} {us ws:List Value},yI xs us->yI ys ws->yI (xs++ys) (us++ws)
 |_,_,_,_,.nil,s=>s
 |_,_,_,_,.cons r t,s=>.cons r (yI.append t s)
theorem yI.take:∀ {xs:List V} {us:List Value} (n:Nat),yI xs us->yI (xs.take n) (us.take n)
 |_,_,0,_=>.nil
 |_,_,_+1,.nil=>.nil
 |_,_,n+1,.cons r t=>.cons r (yI.take n t)
theorem yI.drop:∀ {xs:List V} {us:List Value} (n:Nat),yI xs us->yI (xs.drop n) (us.drop n)
 |_,_,0,r=>r
 |_,_,_+1,.nil=>.nil
 |_,_,n+1,.cons _ t=>yI.drop n t
def zHm:Option V->Option Value->Prop
 |some v,some u=>y8 v u
 |none,none=>True
 |_,_=>False
def KV {κ:Type}:List (κ×V)->List (κ×Value)->Prop:=Paired λ(p:κ×V) (q:κ×Value)=>p.1=q.1/\y8 p.2 q.2
def kV:Key->V
 |.inl i=>.int i
 |.inr x=>.str x
inductive HO where
  |lst (xs:List V)
  |tup (xs:List V)
  |dK (kvs:List (Key×V))|dT (kvs:List (List Key×V))
  |set (S:Int->Bool) (n:Nat)
  |ins (C dx:Addr) (fs:List (Str×V))
  |own (x:Addr)
  |xd (fs:List (Str×V))
  |met (f x:Addr)
  |rng (lo hi:Int)
  |frz (o:Obj) (u:HO)
  |tbl (ps:Array Value)
  |ext (φ:Heap->Prop)
def zBs (h:Heap) (a:Addr) (items:Array Value):Prop:=∃ o,h.get? a=some o/\o.cls = .type "tuple"/\∃ n,o.data = .seq items n/\o.dict=none
theorem zBs.tup (x:zBs h a items):IsTup h a items:=let ⟨o,e,c,n,d,_⟩:=x;⟨o,e,c,n,d⟩
theorem zBs.lt {h:Heap} (x:zBs h a items):a<h.objs.size:=x.tup.lt
theorem zBs.new (h:Heap) (items:Array Value):zBs (h.push { cls:=.type "tuple",data:=.seq items }) h.objs.size items:=⟨_,Heap.get?_push_size _ rfl,rfl,_,rfl,rfl⟩
abbrev Hp:=Addr->Option HO
def upd (H:Hp) (a:Addr) (o:HO):Hp:=λb=>if b=a then some o else H b
theorem zR {H:Hp} {a:Addr} {o:HO}:upd H a o a=some o:=by unfold upd;rw [if_pos rfl]
theorem zY {H:Hp} {a b:Addr} {o:HO} (h:b≠a):upd H a o b=H b:=by unfold upd;rw [if_neg h]
theorem zPa {H:Hp} {a b:Addr} {o u:HO} (h:H a=some o) (h':H b=some u) (d:o≠u):a≠b:=by
 intro e;subst e;rw [h] at h';exact d (Option.some.inj h')
theorem qR {H:Hp} {a b:Addr} {o:HO} (h:H a=some o) (h':H b=none):a≠b:=by
 intro e;subst e;rw [h] at h';cases h'
section
variable (P:Program) (w:World)
def zAI (H:Hp) (h:Heap) (a:Addr):HO->Prop
 |.lst xs=>xs.length<=sizeLine/\∃ (its:List Value) (n:Nat),yI xs its/\h.get? a=some { cls:=.type "list",data:=.seq its.toArray n }
 |.tup xs=>xs.length<=sizeLine/\∃ its:List Value,yI xs its/\zBs h a its.toArray
 |.dK kvs=>kvs.length<=sizeLine/\(a == sysModules)=false/\∃ vs,KV kvs vs/\h.DictOf (yP P w) a vs
 |.dT kvs=>kvs.length<=sizeLine/\(a == sysModules)=false/\∃ xs:List (List Key×Addr×Value),
   Paired (λ(p:List Key×V) (q:List Key×Addr×Value)=>p.1=q.1/\H q.2.1=some (.tup (p.1.map kV))/\y8 p.2 q.2.2) kvs xs /\
   ∃ o es ep,h.get? a=some o/\o.ExactDict/\o.data = .dict es ep/\es.toList=xs.map (entryOfKey (tupleKind (yP P w)))/\(xs.map (·.1)).Nodup
 |.set S n=>h.SetOf (intKind P w) a S n
 |.ins C dx fs=>H dx=some (.own a)/\fs.length<=1000/\dx≠a/\h.get? a=some (PySem.W.instObj C dx) /\
   ∃ mA,h.Ns1 dx mA/\(∀ f,zHm (fs.lookup f) (mA f))/\PySem.Within mA (fs.map (·.1))
 |.own _=>∃ o,h.get? a=some o
 |.xd fs=>∃ mA,h.Ns1 a mA/\∀ f,zHm (fs.lookup f) (mA f)
 |.rng lo hi=>∃ t u v,h.get? a=some { cls:=.type "range",data:=.fields #[.int lo t,.int hi u,.int 1 v] }
 |.frz o u=>h.get? a=some o/\zAI H h a u
 |.tbl ps=>h.get? a=some { cls:=.none,data:=.fields ps }
 |.met f x=>h.get? a=some (PySem.W.methodObj (.ref f) (.ref x))
 |.ext φ=>φ h/\(∃ o,h.get? a=some o)/\∀ h1 h2:Heap,φ h1->(∀ o,h1.get? a=some o->h2.get? a=some o)->φ h2
def HOk (H:Hp) (h:Heap):Prop:=∀ a o,H a=some o->zAI P w H h a o
end
section
variable {P:Program} {w:World} {H H':Hp} {h h':Heap} {a:Addr} {o:HO}
theorem zAI.lt (x:zAI P w H h a o):a<h.objs.size:=by
 cases o with
 |lst xs=>obtain ⟨_,_,_,_,e⟩:=x;exact Heap.lt_size e
 |tup xs=>obtain ⟨_,_,_,p⟩:=x;exact p.lt
 |dK kvs=>obtain ⟨_,_,_,_,o,_,_,e,_⟩:=x;exact Heap.lt_size e
 |dT kvs=>obtain ⟨_,_,_,_,o,_,_,e,_⟩:=x;exact Heap.lt_size e
 |set S n=>obtain ⟨o,_,_,_,e,_⟩:=x;exact Heap.lt_size e
 |ins C dx fs=>obtain ⟨_,_,_,e,_⟩:=x;exact Heap.lt_size e
 |own y=>obtain ⟨_,e⟩:=x;exact Heap.lt_size e
 |xd fs=>obtain ⟨_,⟨_,_,_,e,_⟩,_⟩:=x;exact Heap.lt_size e
 |rng lo hi=>obtain ⟨_,_,_,e⟩:=x;exact Heap.lt_size e
 |frz ob u=>obtain ⟨e,_⟩:=x;exact Heap.lt_size e
 |tbl ps=>exact Heap.lt_size (show h.get? a=some _ from x)
 |met f y=>exact Heap.lt_size (show h.get? a=some _ from x)
 |ext φ=>obtain ⟨_,⟨_,e⟩,_⟩:=x;exact Heap.lt_size e
theorem Paired.mapP {α β:Type} {F G:α->β->Prop}:∀ {l₁:List α} {l₂:List β},Paired F l₁ l₂->(∀ a b,F a b->G a b)->Paired G l₁ l₂
 |_,_,.nil,_=>.nil
 |_,_,.cons r t,f=>.cons (f _ _ r) (Paired.mapP t f)
theorem zAI.stay (x:zAI P w H h a o) (k:∀ b u,(b=a\/H b=some (.own a))->h.get? b=some u->h'.get? b=some u)
  (ho:∀ b,H b=some (.own a)->H' b=some (.own a)) (ht:∀ b xs,H b=some (.tup xs)->H' b=some (.tup xs)):zAI P w H' h' a o:=by
 induction o with
 |lst xs=>obtain ⟨z,its,n,r,e⟩:=x;exact ⟨z,its,n,r,k _ _ (.inl rfl) e⟩
 |tup xs=>obtain ⟨z,its,r,ob,e,c⟩:=x;exact ⟨z,its,r,ob,k _ _ (.inl rfl) e,c⟩
 |dK kvs=>obtain ⟨z,y,vs,r,ob,es,ep,e,c⟩:=x;exact ⟨z,y,vs,r,ob,es,ep,k _ _ (.inl rfl) e,c⟩
 |dT kvs=>
  obtain ⟨z,y,xs,r,ob,es,ep,e,c⟩:=x
  exact ⟨z,y,xs,Paired.mapP r λp q z=>⟨z.1,ht _ _ z.2.1,z.2.2⟩,ob,es,ep,k _ _ (.inl rfl) e,c⟩
 |set S n=>obtain ⟨ob,es,ep,t,e,c⟩:=x;exact ⟨ob,es,ep,t,k _ _ (.inl rfl) e,c⟩
 |ins C dx fs=>
  obtain ⟨d,z,ne,e,mA,⟨od,es,ep,e2,c⟩,r⟩:=x
  exact ⟨ho _ d,z,ne,k _ _ (.inl rfl) e,mA,⟨od,es,ep,k _ _ (.inr d) e2,c⟩,r⟩
 |own y=>obtain ⟨ob,e⟩:=x;exact ⟨ob,k _ _ (.inl rfl) e⟩
 |xd fs=>obtain ⟨mA,⟨od,es,ep,e,c⟩,r⟩:=x;exact ⟨mA,⟨od,es,ep,k _ _ (.inl rfl) e,c⟩,r⟩
 |rng lo hi=>obtain ⟨t,u,v,e⟩:=x;exact ⟨t,u,v,k _ _ (.inl rfl) e⟩
 |frz ob u ih=>obtain ⟨e,q⟩:=x;exact ⟨k _ _ (.inl rfl) e,ih q⟩
 |tbl ps=>
  have e:h.get? a=some { cls:=.none,data:=.fields ps }:=x
  show h'.get? a=some { cls:=.none,data:=.fields ps }
  exact k a _ (.inl rfl) e
 |met f y=>
  have e:h.get? a=some (PySem.W.methodObj (.ref f) (.ref y)):=x
  show h'.get? a=some (PySem.W.methodObj (.ref f) (.ref y))
  exact k a _ (.inl rfl) e
 |ext φ=>obtain ⟨p,⟨o,e⟩,st⟩:=x;exact ⟨st _ _ p λo q=>k _ _ (.inl rfl) q,⟨o,k _ _ (.inl rfl) e⟩,st⟩
theorem HOk.lt (x:HOk P w H h) (e:H a=some o):a<h.objs.size:=(x a o e).lt
theorem HOk.fresh (x:HOk P w H h) (e:h.objs.size<=a):H a=none:=by
 cases q:H a with
 |none=>rfl
 |some u=>exact absurd (Nat.lt_of_lt_of_le (x.lt q) e) (Nat.lt_irrefl _)
theorem HOk.kept (x:HOk P w H h) (k:∀ b u,h.get? b=some u->h'.get? b=some u):HOk P w H h':=λa o e=>
 (x a o e).stay (λb u _ q=>k b u q) (λ_ q=>q) λ_ _ q=>q
theorem HOk.laid (x:HOk P w H h) (k:∀ b u,h.get? b=some u->h'.get? b=some u) (hp:h.objs.size<=a) (new:zAI P w (upd H a o) h' a o):HOk P w (upd H a o) h':=λb u e=>by
 have hn:=x.fresh hp
 by_cases hb:b=a
 ·subst hb;rw [zR] at e;cases e;exact new
 ·rw [zY hb] at e
  exact (x b u e).stay (λc v _ q=>k c v q) (λc q=>by rw [zY (qR q hn)];exact q) λc xs q=>by rw [zY (qR q hn)];exact q
end
def Rd (H:Hp) (a:Addr) (u:HO):Prop:=H a=some u\/∃ o,H a=some (.frz o u)
theorem Rd.ok (r:Rd H a u) (x:HOk P w H h):zAI P w H h a u:=by
 rcases r with r|⟨o,r⟩
 ·exact x a u r
 ·obtain ⟨_,q⟩:=x a _ r
  exact q
def Mut:Option HO->Prop
 |some (.lst _)=>True
 |some (.dK _)=>True
 |some (.dT _)=>True
 |some (.set _ _)=>True
 |some (.ins _ _ _)=>True
 |some (.ext _)=>True
 |_=>False
section
variable {P:Program} {w:World} {H:Hp} {h h':Heap} {x e:Addr} {o':HO}
theorem HOk.write (ok:HOk P w H h) (mu:Mut (H x)) (he:e=x\/H e=some (.own x)) (k:∀ b u,b≠e->h.get? b=some u->h'.get? b=some u) (heo:∃ u,h'.get? e=some u)
  (new:zAI P w (upd H x o') h' x o'):HOk P w (upd H x o') h':=λb u q=>by
 have nown:∀ c y,H c=some (.own y)->c≠x:=λc y r z=>by subst z;rw [r] at mu;exact mu
 have ntup:∀ c xs,H c=some (.tup xs)->c≠x:=λc xs r z=>by subst z;rw [r] at mu;exact mu
 by_cases hb:b=x
 ·subst hb;rw [zR] at q;cases q;exact new
 ·rw [zY hb] at q
  by_cases hbe:b=e
  ·have q':H b=some (.own x):=by
    rcases he with z|z
    ·exact absurd (hbe.trans z) hb
    ·rw [hbe];exact z
   rw [q] at q';cases q'
   obtain ⟨v,hv⟩:=heo
   exact ⟨v,by rw [hbe];exact hv⟩
  ·refine (ok b u q).stay (λc v hc r=>k c v ?_ r) (λc r=>by rw [zY (nown c b r)];exact r) λc xs r=>by rw [zY (ntup c xs r)];exact r
   rcases hc with rfl|hc
   ·exact hbe
   ·rintro rfl
    rcases he with z|z
    ·exact nown c b hc z
    ·rw [hc] at z;cases z;exact hb rfl
end
structure Un (fs ex:List Addr) (H H':Hp) (h h':Heap):Prop where
 keep:∀ b o,h.get? b=some o->H b=none->b∉fs->b∉ex->h'.get? b=some o
 slot:∀ b o,h.get? b=some o->H b=none->b∈fs->b∉ex->∃ sl,h'.get? b=some { o with slots:=sl }
 free:∀ b o,h.get? b=some o->H b=none->b∉ex->H' b=none
 there:∀ b o,h.get? b=some o->b∉ex->∃ o',h'.get? b=some o'
 tups:∀ b xs,H b=some (.tup xs)->H' b=some (.tup xs)
 frzs:∀ b o u,H b=some (.frz o u)->H' b=some (.frz o u)
 tbls:∀ b ps,H b=some (.tbl ps)->∃ more,H' b=some (.tbl (ps++more))
section
variable {fs fs' ex ex':List Addr} {H H1 H2:Hp} {h h1 h2 h':Heap} {a x e:Addr} {o:HO}
theorem Un.any (u:Un fs ex H H1 h h1) {b:Addr} {ob:Obj} (q:h.get? b=some ob) (n:H b=none) (hx:b∉ex):∃ sl,h1.get? b=some { ob with slots:=sl }:=by
 by_cases hb:b∈fs
 ·exact u.slot b ob q n hb hx
 ·exact ⟨ob.slots,u.keep b ob q n hb hx⟩
theorem Un.kept (k:∀ b u,h.get? b=some u->h'.get? b=some u):Un fs ex H H h h':=
 ⟨λb ob q _ _ _=>k b ob q,λb ob q _ _ _=>⟨ob.slots,k b ob q⟩,λ_ _ _ n _=>n,λb ob q _=>⟨ob,k b ob q⟩,λ_ _ q=>q,λ_ _ _ q=>q,λ_ ps q=>⟨#[],by rw [q];simp⟩⟩
theorem Un.refl:Un fs ex H H h h:=Un.kept λ_ _ q=>q
theorem Un.laid (k:∀ b u,h.get? b=some u->h'.get? b=some u) (hp:h.objs.size<=a) (hn:H a=none):Un fs ex H (upd H a o) h h' where
 keep:=λb u q _ _ _=>k b u q
 slot:=λb u q _ _ _=>⟨u.slots,k b u q⟩
 free:=λb u q n _=>by rw [zY (Nat.ne_of_lt (Nat.lt_of_lt_of_le (Heap.lt_size q) hp))];exact n
 there:=λb u q _=>⟨u,k b u q⟩
 tups:=λb xs q=>by rw [zY (qR q hn)];exact q
 frzs:=λb u xs q=>by rw [zY (qR q hn)];exact q
 tbls:=λb ps q=>⟨#[],by rw [zY (qR q hn),q];simp⟩
theorem Un.write (mu:Mut (H x)) (he:e=x\/H e=some (.own x)) (k:∀ b u,b≠e->h.get? b=some u->h'.get? b=some u) (heo:∃ u,h'.get? e=some u):Un fs ex H (upd H x o) h h':=by
 have hx:∀ b,H b=none->b≠x:=λb n z=>by subst z;rw [n] at mu;exact mu
 have hb:∀ b,H b=none->b≠e:=λb n z=>by
  subst z
  rcases he with r|r
  ·exact hx b n r
  ·rw [n] at r;cases r
 have hm:∀ b u,H b=some u->¬ Mut (some u)->b≠x:=λb u q nm z=>by subst z;rw [q] at mu;exact nm mu
 refine ⟨λb u q n _ _=>k b u (hb b n) q,λb u q n _ _=>⟨u.slots,k b u (hb b n) q⟩,λb u q n _=>by rw [zY (hx b n)];exact n,λb u q _=>?_,
  λb xs q=>by rw [zY (hm b _ q λz=>z)];exact q,λb u xs q=>by rw [zY (hm b _ q λz=>z)];exact q,λb ps q=>⟨#[],by rw [zY (hm b _ q λz=>z),q];simp⟩⟩
 by_cases hbe:b=e
 ·subst hbe;exact heo
 ·exact ⟨u,k b u hbe q⟩
end
def trk (h:Heap) (H:Hp):List Addr:=(List.range h.objs.size).filter λa=>(H a).isSome
def zM6 (h:Heap) (H:Hp):Heap:=PySem.W.hideAll h (trk h H)
theorem zKR (h:Heap) (H:Hp):(zM6 h H).objs.size=h.objs.size:=PySem.W.hideAll_size _ _
theorem zM7 {h:Heap} (e:h.get? b=some o) (n:H b=none):(zM6 h H).get? b=some o:=
 PySem.W.hideAll_get _ e λhm=>by
  have q:(H b).isSome=true:=(List.mem_filter.mp hm).2
  rw [n] at q;simp at q
theorem zPb {h:Heap} (e:(zM6 h H).get? b=some o):h.get? b=some o/\H b=none:=by
 have e':h.get? b=some o:=PySem.W.of_hideAll (trk h H) e
 refine ⟨e',?_⟩
 cases q:H b with
 |none=>rfl
 |some x=>
  have hm:b∈trk h H:=List.mem_filter.mpr ⟨List.mem_range.mpr (Heap.lt_size e'),by simp [q]⟩
  have z:(zM6 h H).get? b=none:=PySem.W.hideAll_none (trk h H) hm
  rw [z] at e;cases e
def zPc (g h:Heap) (L:Addr):PNt:=(List.range h.objs.size).filterMap λa=>if a=L\/(g.get? a).isSome=true then none else (h.get? a).map λo=>(a,o)
def rest (g h:Heap) (L d:Addr):PNt:=(zPc g h L).filter λp=>decide (p.1≠d)
end L2
namespace L2
open PySem PySem.Spec PyProof.Rows
structure Mod (K:Fg) (mg:MGt) (base:Heap):Prop where
 kin:K.In base
 glob:base.Ns mainGlobals mg
 blt:∃ mb,base.Ns builtinsNs mb/\∀ x:Str,x ≠ "__name__"->mb x=bootBuiltins x
 nolimit:base.NoLimit
structure Cx where
 prog:Program
 w:World
 K:Fg
 mg:MGt
 base:Heap
 A:Around
 N:List Str
 s₀:Shared
 H₀:Hp
 env:Env
 outer:List Env
 stack:List Env
 ex:List Addr
 fn:Str->Bool
 calm:Bool
 pn:PNt
 xe:VSt
def frs (l:List Env):List Addr:=l.filterMap (·.frame)
abbrev Cx.fs (X:Cx):List Addr:=frs X.outer
def Vis (sc:Scope) (x:Str):Prop:=sc.names.lookup x=some .local\/sc.names.lookup x=some .cell\/sc.names.lookup x=some .free
def Loc (sc:Scope) (x:Str):Prop:=sc.names.lookup x=some .local\/sc.names.lookup x=some .cell
def Look (env:Env) (h:Heap) (m:MGt) (x:Str) (u:Value):Prop:=
 (env.kindOf x=some .local/\m x=some u)\/((env.kindOf x=some .cell\/env.kindOf x=some .free)/\∃ c,env.cells.lookup x=some c/\h.IsCell c (some u))
structure Cx.Ok (X:Cx):Prop where
 mod:Mod X.K X.mg X.base
 kind:X.env.scope.kind = .function
 glob:X.env.globals=mainGlobals
 blt:X.env.builtins=builtinsNs
 above:X.s₀.heap.objs.size<=X.env.locals
 inj:∀ x y c,X.env.cells.lookup x=some c->X.env.cells.lookup y=some c->x=y
 has:∀ x,(X.env.kindOf x=some .cell\/X.env.kindOf x=some .free)->∃ c,X.env.cells.lookup x=some c
 cab:∀ x c,X.fn x=true->X.env.cells.lookup x=some c->X.s₀.heap.objs.size<=c
 hd:X.calm=true->X.A.handled=none
 frames:X.A.frames=some X.stack
 stk:X.stack=X.outer\/(X.stack=X.env::X.outer/\X.env.frame=some X.env.locals)
 exf:∀ b∈X.ex,b≠X.env.locals/\∀ x c,X.env.cells.lookup x=some c->c≠b
 bs:∀ b o,X.base.get? b=some o->X.s₀.heap.get? b=some o/\X.H₀ b=none
 bsz:X.base.objs.size<=X.s₀.heap.objs.size
 noex:∀ b o,X.base.get? b=some o->b∉X.ex
 exfs:∀ b∈X.ex,b∉X.fs
 funs:X.s₀.heap.FunFrames X.base X.outer
 frf:∀ b∈X.fs,X.H₀ b=none
structure Inv (X:Cx) (pins:PNt) (σ:List (Option V)) (H:Hp) (s:Shared):Prop where
 ok:X.Ok
 os:s.os=X.s₀.os
 bare:AllBare s.gens
 base:Un X.fs X.ex X.H₀ H X.s₀.heap s.heap
 loc:∃ m,s.heap.Ns X.env.locals m/\∀ (i:Nat) (x:Str) (v:V),X.N[i]?=some x->σ[i]?=some (some v)->Vis X.env.scope x->∃ u,y8 v u/\Look X.env s.heap m x u
 cell:∀ x c,X.env.cells.lookup x=some c->∃ v,s.heap.IsCell c v
 free:H X.env.locals=none
 freeC:∀ x c,X.env.cells.lookup x=some c->H c=none
 pin:∀ p∈X.pn++pins,s.heap.get? p.1=some p.2/\H p.1=none/\p.1≠X.env.locals/\p.1∉X.fs/\∀ v,p.2.data≠.cell v
 hok:HOk X.prog X.w H s.heap
 len:σ.length=X.N.length
section
variable {X:Cx} {pins:PNt} {σ:List (Option V)} {H H':Hp} {s:Shared} {h':Heap}
theorem Cx.Ok.nofr (ok:X.Ok) (e:X.base.get? b=some o):b∉X.fs:=λhb=>by
 have:=(ok.funs.mem hb).1
 rw [e] at this;cases this
theorem Inv.bs (I:Inv X pins σ H s):∀ b o,X.base.get? b=some o->s.heap.get? b=some o/\H b=none:=λb o e=>
 ⟨I.base.keep b o (I.ok.bs b o e).1 (I.ok.bs b o e).2 (I.ok.nofr e) (I.ok.noex b o e),I.base.free b o (I.ok.bs b o e).1 (I.ok.bs b o e).2 (I.ok.noex b o e)⟩
theorem Inv.bk (I:Inv X pins σ H s):∀ b o,X.base.get? b=some o->s.heap.get? b=some o:=λb o e=>(I.bs b o e).1
theorem Inv.mod (I:Inv X pins σ H s):Mod X.K X.mg X.base:=I.ok.mod
theorem Inv.kIn (I:Inv X pins σ H s):X.K.In s.heap:=I.ok.mod.kin.keeps I.bk
theorem Inv.lt (I:Inv X pins σ H s):X.env.locals<s.heap.objs.size:=let ⟨_,hn,_⟩:=I.loc;hn.lt
theorem Inv.sz (I:Inv X pins σ H s):X.s₀.heap.objs.size<=s.heap.objs.size:=Nat.le_trans I.ok.above (Nat.le_of_lt I.lt)
theorem Inv.nofs (I:Inv X pins σ H s) (h:s.heap.objs.size<=a):a∉X.fs:=λhb=>by
 obtain ⟨_,o,ho,_⟩:=I.ok.funs.mem hb
 exact absurd (Nat.lt_of_lt_of_le (Heap.lt_size ho) (Nat.le_trans I.sz h)) (Nat.lt_irrefl _)
theorem Inv.cne (I:Inv X pins σ H s):∀ x c,X.env.cells.lookup x=some c->c≠X.env.locals:=λx c e z=>by
 obtain ⟨v,o,ho,hd⟩:=I.cell x c e
 obtain ⟨m,⟨o',es,ep,ho',hd',_⟩,_⟩:=I.loc
 rw [z,ho'] at ho;cases ho;rw [hd'] at hd;cases hd
theorem Inv.funs (I:Inv X pins σ H s):s.heap.FunFrames X.base X.outer:=by
 have all:∀ (l:List Env),(∀ b∈frs l,b∈X.fs)->X.s₀.heap.FunFrames X.base l->s.heap.FunFrames X.base l:=by
  intro l
  induction l with
  |nil=>intro _ _;trivial
  |cons env r ih=>
   intro hs hl
   obtain ⟨hk,⟨L,o,hf,hn,ho,hd⟩,hr⟩:=hl
   have hL:L∈X.fs:=hs L (by unfold frs;rw [List.filterMap_cons,hf];exact List.mem_cons_self)
   obtain ⟨sl,e⟩:=I.base.slot L o ho (I.ok.frf L hL) hL λz=>I.ok.exfs L z hL
   exact ⟨hk,⟨L,_,hf,hn,e,hd⟩,ih (λb hb=>hs b (by unfold frs;rw [List.filterMap_cons,hf];exact List.mem_cons_of_mem _ hb)) hr⟩
 exact all X.outer (λ_ hb=>hb) I.ok.funs
theorem Inv.stack (I:Inv X pins σ H s):s.heap.FunFrames X.base X.stack:=by
 rcases I.ok.stk with e|⟨e,hf⟩
 ·rw [e];exact I.funs
 ·rw [e]
  obtain ⟨m,hn,_⟩:=I.loc
  refine .cons (by rw [I.ok.kind];decide) hf hn ?_ I.funs
  exact Heap.get?_none_of_le (Nat.le_trans I.ok.bsz I.ok.above)
theorem Inv.stkSub (I:Inv X pins σ H s):∀ b∈frs X.stack,b∈X.env.locals::X.fs:=λb hb=>by
 rcases I.ok.stk with e|⟨e,hf⟩
 ·rw [e] at hb;exact List.mem_cons_of_mem _ hb
 ·rw [e] at hb
  unfold frs at hb
  rw [List.filterMap_cons,hf] at hb
  exact hb
theorem Inv.stkFree (I:Inv X pins σ H s):∀ b∈frs X.stack,H b=none:=λb hb=>by
 rcases List.mem_cons.mp (I.stkSub b hb) with e|hb
 ·rw [e];exact I.free
 ·obtain ⟨_,o,ho,_⟩:=I.ok.funs.mem hb
  exact I.base.free b o ho (I.ok.frf b hb) λz=>I.ok.exfs b z hb
theorem Inv.step {g':Array GenState} {t':Nat} {d':Drawn} {ch:List Addr} (I:Inv X pins σ H s)
  (hch:∀ b∈ch,(b∈X.ex\/X.s₀.heap.objs.size<=b)/\b≠X.env.locals/\(∀ x c,X.env.cells.lookup x=some c->c≠b)/\∀ p∈X.pn++pins,p.1≠b)
  (keep:∀ b o,b≠X.env.locals->b∉X.fs->b∉ch->s.heap.get? b=some o->H b=none->h'.get? b=some o)
  (slot:∀ b o,b≠X.env.locals->b∈X.fs->b∉ch->s.heap.get? b=some o->H b=none->∃ sl,h'.get? b=some { o with slots:=sl }) (free:∀ b o,b∉ch->s.heap.get? b=some o->H b=none->H' b=none)
  (there:∀ b o,b∉ch->s.heap.get? b=some o->∃ o',h'.get? b=some o')
  (tups:∀ b xs,H b=some (.tup xs)->H' b=some (.tup xs)) (frzs:∀ b o u,H b=some (.frz o u)->H' b=some (.frz o u)) (tbls:∀ b ps,H b=some (.tbl ps)->∃ more,H' b=some (.tbl (ps++more)))
  (ns:∀ m,s.heap.Ns X.env.locals m->h'.Ns X.env.locals m) (hok:HOk X.prog X.w H' h') (hg:AllBare g') :
  Inv X pins σ H' { s with heap:=h',gens:=g',drawn:=d',toks:=t' }:=by
 have neL:∀ b o,X.s₀.heap.get? b=some o->b≠X.env.locals:=λb o e=>Nat.ne_of_lt (Nat.lt_of_lt_of_le (Heap.lt_size e) I.ok.above)
 have neC:∀ b o,X.s₀.heap.get? b=some o->b∉X.ex->b∉ch:=λb o e hx hb=>by
  rcases (hch b hb).1 with z|z
  ·exact hx z
  ·exact absurd (Nat.lt_of_lt_of_le (Heap.lt_size e) z) (Nat.lt_irrefl _)
 have cellK:∀ x c,X.env.cells.lookup x=some c->∀ v,s.heap.IsCell c v->h'.IsCell c v:=λx c e v=>by
  rintro ⟨o,ho,hd⟩
  have nch:c∉ch:=λz=>(hch c z).2.2.1 x c e rfl
  by_cases hc:c∈X.fs
  ·obtain ⟨sl,q⟩:=slot c o (I.cne x c e) hc nch ho (I.freeC x c e)
   exact ⟨_,q,hd⟩
  ·exact ⟨o,keep c o (I.cne x c e) hc nch ho (I.freeC x c e),hd⟩
 refine ⟨I.ok,I.os,hg,⟨λb o e n hb hx=>?_,λb o e n hb hx=>?_,λb o e n hx=>?_,λb o e hx=>?_,λb xs e=>tups b xs (I.base.tups b xs e),λb o xs e=>frzs b o xs (I.base.frzs b o xs e),λb ps e=>?_⟩,?_,λx c e=>?_,?_,λx c e=>?_,λp hp=>?_,hok,I.len⟩
 ·exact keep b o (neL b o e) hb (neC b o e hx) (I.base.keep b o e n hb hx) (I.base.free b o e n hx)
 ·obtain ⟨sl,e1⟩:=I.base.slot b o e n hb hx
  obtain ⟨sl',e2⟩:=slot b _ (neL b o e) hb (neC b o e hx) e1 (I.base.free b o e n hx)
  exact ⟨sl',e2⟩
 ·obtain ⟨o',e1⟩:=I.base.there b o e hx
  exact free b o' (neC b o e hx) e1 (I.base.free b o e n hx)
 ·obtain ⟨o',e1⟩:=I.base.there b o e hx
  exact there b o' (neC b o e hx) e1
 ·obtain ⟨m1,e1⟩:=I.base.tbls b ps e
  obtain ⟨m2,e2⟩:=tbls b _ e1
  exact ⟨m1++m2,by rw [e2,Array.append_assoc]⟩
 ·obtain ⟨m,hn,hl⟩:=I.loc
  refine ⟨m,ns m hn,λi x v e1 e2 e3=>?_⟩
  obtain ⟨u,r,l⟩:=hl i x v e1 e2 e3
  refine ⟨u,r,?_⟩
  rcases l with l|⟨k,c,e,z⟩
  ·exact .inl l
  ·exact .inr ⟨k,c,e,cellK x c e _ z⟩
 ·obtain ⟨v,z⟩:=I.cell x c e
  exact ⟨v,cellK x c e v z⟩
 ·obtain ⟨m,⟨o,_,_,ho,_⟩,_⟩:=I.loc
  exact free _ o (λz=>(hch _ z).2.1 rfl) ho I.free
 ·obtain ⟨v,o,ho,hd⟩:=I.cell x c e
  exact free c o (λz=>(hch c z).2.2.1 x c e rfl) ho (I.freeC x c e)
 ·obtain ⟨e,n,ne,nf,d⟩:=I.pin p hp
  have nch:p.1∉ch:=λz=>(hch p.1 z).2.2.2 p hp rfl
  exact ⟨keep p.1 p.2 ne nf nch e n,free p.1 p.2 nch e n,ne,nf,d⟩
theorem Inv.stepN {g':Array GenState} {t':Nat} {d':Drawn} {ch:List Addr} (I:Inv X pins σ H s)
  (hch:∀ b∈ch,(b∈X.ex\/X.s₀.heap.get? b=none)/\b≠X.env.locals/\(∀ x c,X.env.cells.lookup x=some c->c≠b)/\∀ p∈X.pn++pins,p.1≠b)
  (keep:∀ b o,b≠X.env.locals->b∉X.fs->b∉ch->s.heap.get? b=some o->H b=none->h'.get? b=some o)
  (slot:∀ b o,b≠X.env.locals->b∈X.fs->b∉ch->s.heap.get? b=some o->H b=none->∃ sl,h'.get? b=some { o with slots:=sl }) (free:∀ b o,b∉ch->s.heap.get? b=some o->H b=none->H' b=none)
  (there:∀ b o,b∉ch->s.heap.get? b=some o->∃ o',h'.get? b=some o')
  (tups:∀ b xs,H b=some (.tup xs)->H' b=some (.tup xs)) (frzs:∀ b o u,H b=some (.frz o u)->H' b=some (.frz o u)) (tbls:∀ b ps,H b=some (.tbl ps)->∃ more,H' b=some (.tbl (ps++more)))
  (ns:∀ m,s.heap.Ns X.env.locals m->h'.Ns X.env.locals m) (hok:HOk X.prog X.w H' h') (hg:AllBare g') :
  Inv X pins σ H' { s with heap:=h',gens:=g',drawn:=d',toks:=t' }:=by
 have neL:∀ b o,X.s₀.heap.get? b=some o->b≠X.env.locals:=λb o e=>Nat.ne_of_lt (Nat.lt_of_lt_of_le (Heap.lt_size e) I.ok.above)
 have neC:∀ b o,X.s₀.heap.get? b=some o->b∉X.ex->b∉ch:=λb o e hx hb=>by
  rcases (hch b hb).1 with z|z
  ·exact hx z
  ·rw [z] at e;cases e
 have cellK:∀ x c,X.env.cells.lookup x=some c->∀ v,s.heap.IsCell c v->h'.IsCell c v:=λx c e v=>by
  rintro ⟨o,ho,hd⟩
  have nch:c∉ch:=λz=>(hch c z).2.2.1 x c e rfl
  by_cases hc:c∈X.fs
  ·obtain ⟨sl,q⟩:=slot c o (I.cne x c e) hc nch ho (I.freeC x c e)
   exact ⟨_,q,hd⟩
  ·exact ⟨o,keep c o (I.cne x c e) hc nch ho (I.freeC x c e),hd⟩
 refine ⟨I.ok,I.os,hg,⟨λb o e n hb hx=>?_,λb o e n hb hx=>?_,λb o e n hx=>?_,λb o e hx=>?_,λb xs e=>tups b xs (I.base.tups b xs e),λb o xs e=>frzs b o xs (I.base.frzs b o xs e),λb ps e=>?_⟩,?_,λx c e=>?_,?_,λx c e=>?_,λp hp=>?_,hok,I.len⟩
 ·exact keep b o (neL b o e) hb (neC b o e hx) (I.base.keep b o e n hb hx) (I.base.free b o e n hx)
 ·obtain ⟨sl,e1⟩:=I.base.slot b o e n hb hx
  obtain ⟨sl',e2⟩:=slot b _ (neL b o e) hb (neC b o e hx) e1 (I.base.free b o e n hx)
  exact ⟨sl',e2⟩
 ·obtain ⟨o',e1⟩:=I.base.there b o e hx
  exact free b o' (neC b o e hx) e1 (I.base.free b o e n hx)
 ·obtain ⟨o',e1⟩:=I.base.there b o e hx
  exact there b o' (neC b o e hx) e1
 ·obtain ⟨m1,e1⟩:=I.base.tbls b ps e
  obtain ⟨m2,e2⟩:=tbls b _ e1
  exact ⟨m1++m2,by rw [e2,Array.append_assoc]⟩
 ·obtain ⟨m,hn,hl⟩:=I.loc
  refine ⟨m,ns m hn,λi x v e1 e2 e3=>?_⟩
  obtain ⟨u,r,l⟩:=hl i x v e1 e2 e3
  refine ⟨u,r,?_⟩
  rcases l with l|⟨k,c,e,z⟩
  ·exact .inl l
  ·exact .inr ⟨k,c,e,cellK x c e _ z⟩
 ·obtain ⟨v,z⟩:=I.cell x c e
  exact ⟨v,cellK x c e v z⟩
 ·obtain ⟨m,⟨o,_,_,ho,_⟩,_⟩:=I.loc
  exact free _ o (λz=>(hch _ z).2.1 rfl) ho I.free
 ·obtain ⟨v,o,ho,hd⟩:=I.cell x c e
  exact free c o (λz=>(hch c z).2.2.1 x c e rfl) ho (I.freeC x c e)
 ·obtain ⟨e,n,ne,nf,d⟩:=I.pin p hp
  have nch:p.1∉ch:=λz=>(hch p.1 z).2.2.2 p hp rfl
  exact ⟨keep p.1 p.2 ne nf nch e n,free p.1 p.2 nch e n,ne,nf,d⟩
theorem Inv.un {t':Nat} (I:Inv X pins σ H s) (u:Un X.fs [] H H' s.heap h') (hok:HOk X.prog X.w H' h'):Inv X pins σ H' { s with heap:=h',toks:=t' }:=by
 obtain ⟨m,⟨o,es,ep,ho,r⟩,_⟩:=id I.loc
 obtain ⟨sl,hL⟩:=u.any ho I.free (by simp)
 exact I.step (g':=s.gens) (d':=s.drawn) (ch:=[]) (λ_ z=>nomatch z) (λb o _ hb _ e n=>u.keep b o e n hb (by simp)) (λb o _ hb _ e n=>u.slot b o e n hb (by simp)) (λb o _ e n=>u.free b o e n (by simp)) (λb o _ e=>u.there b o e (by simp)) u.tups u.frzs u.tbls (λm' hm=>by
  obtain ⟨o',es',ep',ho',r'⟩:=hm
  rw [ho] at ho';cases ho'
  exact ⟨_,es',ep',hL,r'⟩) hok I.bare
theorem Inv.call {g':Array GenState} {t':Nat} {d':Drawn} {ch:List Addr} (I:Inv X pins σ H s) (u:Un (frs X.stack) ch H H' s.heap h') (hok:HOk X.prog X.w H' h') (hg:AllBare g')
  (hch:∀ b∈ch,(b∈X.ex\/X.s₀.heap.objs.size<=b)/\b≠X.env.locals/\(∀ x c,X.env.cells.lookup x=some c->c≠b)/\∀ p∈X.pn++pins,p.1≠b) :
  Inv X pins σ H' { s with heap:=h',gens:=g',drawn:=d',toks:=t' }:=by
 obtain ⟨m,⟨o,es,ep,ho,r⟩,_⟩:=id I.loc
 obtain ⟨sl,hL⟩:=u.any ho I.free λz=>(hch _ z).2.1 rfl
 exact I.step (ch:=ch) hch (λb o hL hb hc e n=>u.keep b o e n (λz=>(List.mem_cons.mp (I.stkSub b z)).elim hL hb) hc) (λb o _ _ hc e n=>u.any e n hc) (λb o hc e n=>u.free b o e n hc) (λb o hc e=>u.there b o e hc) u.tups u.frzs u.tbls (λm' hm=>by
  obtain ⟨o',es',ep',ho',r'⟩:=hm
  rw [ho] at ho';cases ho'
  exact ⟨_,es',ep',hL,r'⟩) hok hg
theorem Inv.turned {t':Nat} {it:Addr} (I:Inv X pins σ H s) (k:∀ b o,b≠it->s.heap.get? b=some o->h'.get? b=some o) (hn:H it=none) (hL:it≠X.env.locals)
  (h1:it∈X.ex\/X.s₀.heap.objs.size<=it) (h2:∀ x c,X.env.cells.lookup x=some c->c≠it) (h3:∀ p∈X.pn++pins,p.1≠it):Inv X pins σ H { s with heap:=h',toks:=t' }:=by
 have nit:∀ b u,H b=some u->b≠it:=λb u e z=>by rw [z,hn] at e;cases e
 refine I.step (g':=s.gens) (d':=s.drawn) (ch:=[it]) (λb hb=>?_) (λb o _ _ hc e _=>k b o (λz=>hc (by simp [z])) e) (λb o _ _ hc e _=>⟨o.slots,k b o (λz=>hc (by simp [z])) e⟩) (λ_ _ _ _ n=>n)
  (λb o hc e=>⟨o,k b o (λz=>hc (by simp [z])) e⟩) (λ_ _ e=>e) (λ_ _ _ e=>e) (λb ps e=>⟨#[],by rw [e];simp⟩) (λm hm=>?_) (λb u e=>?_) I.bare
 ·have e:b=it:=by simpa using hb
  subst e
  exact ⟨h1,hL,h2,h3⟩
 ·obtain ⟨o,es,ep,ho,r⟩:=hm
  exact ⟨o,es,ep,k _ o (Ne.symm hL) ho,r⟩
 ·refine (I.hok b u e).stay (λc v hc q=>k c v ?_ q) (λ_ q=>q) λ_ _ q=>q
  rcases hc with z|z
  ·rw [z];exact nit b u e
  ·exact nit c _ z
theorem Inv.tok (I:Inv X pins σ H s) (t:Nat):Inv X pins σ H { s with toks:=t }:=I.un (h':=s.heap) (t':=t) Un.refl I.hok
theorem Inv.kept {t':Nat} (I:Inv X pins σ H s) (k:∀ b u,s.heap.get? b=some u->h'.get? b=some u):Inv X pins σ H { s with heap:=h',toks:=t' }:=I.un (Un.kept k) (I.hok.kept k)
theorem Inv.laid {t':Nat} (I:Inv X pins σ H s) (k:∀ b u,s.heap.get? b=some u->h'.get? b=some u) (hp:s.heap.objs.size<=a) (new:zAI X.prog X.w (upd H a o) h' a o) :
  Inv X pins σ (upd H a o) { s with heap:=h',toks:=t' }:=I.un (Un.laid k hp (I.hok.fresh hp)) (I.hok.laid k hp new)
theorem Inv.write {t':Nat} (I:Inv X pins σ H s) (mu:Mut (H x)) (he:e=x\/H e=some (.own x)) (k:∀ b u,b≠e->s.heap.get? b=some u->h'.get? b=some u) (heo:∃ u,h'.get? e=some u) (new:zAI X.prog X.w (upd H x o) h' x o):Inv X pins σ (upd H x o) { s with heap:=h',toks:=t' }:=I.un (Un.write mu he k heo) (I.hok.write mu he k heo new)
theorem Inv.pins_of (I:Inv X pins σ H s) (h:∀ p∈pins',s.heap.get? p.1=some p.2/\H p.1=none/\p.1≠X.env.locals/\p.1∉X.fs/\∀ v,p.2.data≠.cell v):Inv X pins' σ H s:=
 ⟨I.ok,I.os,I.bare,I.base,I.loc,I.cell,I.free,I.freeC,λp hp=>(List.mem_append.mp hp).elim (λz=>I.pin p (List.mem_append_left _ z)) (h p),I.hok,I.len⟩
theorem zIl {N:List Str} (hN:N.Nodup) {i j:Nat} {x:Str} (a:N[i]?=some x) (b:N[j]?=some x):i=j:=by
 obtain ⟨h1,e1⟩:=List.getElem?_eq_some_iff.mp a
 obtain ⟨h2,e2⟩:=List.getElem?_eq_some_iff.mp b
 exact (List.getElem_inj hN).mp (e1.trans e2.symm)
theorem zGu {E:VSt} {i:Nat} {x:Str} {u:Value} {Q:Unit->Shared->Prop} (I:Inv X pins σ H s) (hN:X.N.Nodup) (hi:X.N[i]?=some x) (hx:Loc X.env.scope x) (r:y8 v u) (h:∀ s',Inv X pins (σ.set i (some v)) H s'->(∃ a,Heap.SameBut a s.heap s'.heap/\(a=X.env.locals\/X.env.cells.lookup x=some a))->Q () s') (hf:X.fn x=true\/X.env.scope.names.lookup x=some .local:=by first|exact .inl rfl|exact .inr rfl|assumption):wpAny M A (storeName X.env x u) Q E s:=by
 obtain ⟨m,hn,hl⟩:=id I.loc
 have hcls:(X.env.scope.kind == .class || (X.env.scope.kind == .module && X.env.locals != X.env.globals))=false:=by rw [I.ok.kind];rfl
 have hiσ:i<σ.length:=by rw [I.len];exact (List.getElem?_eq_some_iff.mp hi).1
 have cne:=I.cne
 have tracked:∀ {a:Addr} {h':Heap},(∃ o,s.heap.get? a=some o/\H a=none)->Heap.SameBut a s.heap h'->HOk X.prog X.w H h':=λ{a h'} ha hs b ob e=>by
  obtain ⟨_,_,hfree⟩:=ha
  refine (I.hok b ob e).stay (λc w' hc q=>(hs.2 c ?_).trans q) (λ_ q=>q) λ_ _ q=>q
  rintro rfl
  rcases hc with rfl|hc
  ·rw [hfree] at e;cases e
  ·rw [hfree] at hc;cases hc
 rcases hx with hk|hk
 ·refine wpAny_storeName_local hk hn (λh' hn' hs=>?_) hcls
  obtain ⟨oL,_,_,hoL,_⟩:=id hn
  refine h _ ⟨I.ok,I.os,I.bare,⟨λb o e n hb hx=>?_,λb o e n hb hx=>?_,I.base.free,λb o e hx=>?_,I.base.tups,I.base.frzs,I.base.tbls⟩,⟨_,hn',λj y v' e1 e2 e3=>?_⟩,λy c e=>?_,I.free,I.freeC,λp hp=>?_,tracked ⟨oL,hoL,I.free⟩ hs,by simpa using I.len⟩ ⟨_,hs,.inl rfl⟩
  ·exact (hs.2 b (Nat.ne_of_lt (Nat.lt_of_lt_of_le (Heap.lt_size e) I.ok.above))).trans (I.base.keep b o e n hb hx)
  ·obtain ⟨sl,e1⟩:=I.base.slot b o e n hb hx
   exact ⟨sl,(hs.2 b (Nat.ne_of_lt (Nat.lt_of_lt_of_le (Heap.lt_size e) I.ok.above))).trans e1⟩
  ·obtain ⟨o',e1⟩:=I.base.there b o e hx
   exact ⟨o',(hs.2 b (Nat.ne_of_lt (Nat.lt_of_lt_of_le (Heap.lt_size e) I.ok.above))).trans e1⟩
  ·by_cases hj:j=i
   ·subst hj
    rw [hi] at e1;cases e1
    rw [List.getElem?_set_self hiσ] at e2
    cases e2
    exact ⟨u,r,.inl ⟨hk,by simp⟩⟩
   ·rw [List.getElem?_set_ne (Ne.symm hj)] at e2
    obtain ⟨u',r',q⟩:=hl j y v' e1 e2 e3
    refine ⟨u',r',?_⟩
    rcases q with ⟨k,e⟩|⟨k,c,e,z⟩
    ·refine .inl ⟨k,?_⟩
     have:y≠x:=λe=>hj (zIl hN e1 (e ▸ hi))
     simp [this,e]
    ·exact .inr ⟨k,c,e,z.sameBut hs (cne y c e)⟩
  ·obtain ⟨w',z⟩:=I.cell y c e
   exact ⟨w',z.sameBut hs (cne y c e)⟩
  ·obtain ⟨e,n,ne,nf,d⟩:=I.pin p hp
   exact ⟨(hs.2 p.1 ne).trans e,n,ne,nf,d⟩
 ·have hfn:X.fn x=true:=by
   rcases hf with z|z
   ·exact z
   ·rw [z] at hk;cases hk
  obtain ⟨c,hc⟩:=I.ok.has x (.inl hk)
  obtain ⟨w',z⟩:=I.cell x c hc
  refine wpAny_storeName_cell I.ok.kind hk hc z (λh' hc' hs=>?_)
  obtain ⟨oc,hoc,hocd⟩:=id z
  refine h { s with heap:=h' } ⟨I.ok,I.os,I.bare,⟨λb o e n hb hx=>?_,λb o e n hb hx=>?_,I.base.free,λb o e hx=>?_,I.base.tups,I.base.frzs,I.base.tbls⟩,⟨m,hn.sameBut hs (Ne.symm (cne x c hc)),λj y v' e1 e2 e3=>?_⟩,λy c' e=>?_,I.free,I.freeC,λp hp=>?_,tracked ⟨oc,hoc,I.freeC x c hc⟩ hs,by simpa using I.len⟩ ⟨c,hs,.inr hc⟩
  ·exact (hs.2 b (Nat.ne_of_lt (Nat.lt_of_lt_of_le (Heap.lt_size e) (I.ok.cab x c hfn hc)))).trans (I.base.keep b o e n hb hx)
  ·obtain ⟨sl,e1⟩:=I.base.slot b o e n hb hx
   exact ⟨sl,(hs.2 b (Nat.ne_of_lt (Nat.lt_of_lt_of_le (Heap.lt_size e) (I.ok.cab x c hfn hc)))).trans e1⟩
  ·obtain ⟨o',e1⟩:=I.base.there b o e hx
   exact ⟨o',(hs.2 b (Nat.ne_of_lt (Nat.lt_of_lt_of_le (Heap.lt_size e) (I.ok.cab x c hfn hc)))).trans e1⟩
  ·by_cases hj:j=i
   ·subst hj
    rw [hi] at e1;cases e1
    rw [List.getElem?_set_self hiσ] at e2
    cases e2
    exact ⟨u,r,.inr ⟨.inl hk,c,hc,hc'⟩⟩
   ·rw [List.getElem?_set_ne (Ne.symm hj)] at e2
    obtain ⟨u',r',q⟩:=hl j y v' e1 e2 e3
    refine ⟨u',r',?_⟩
    rcases q with q|⟨k,c',e,z'⟩
    ·exact .inl q
    ·refine .inr ⟨k,c',e,z'.sameBut hs ?_⟩
     rintro rfl
     exact hj (zIl hN e1 (I.ok.inj _ _ _ e hc ▸ hi))
  ·by_cases hcc:c'=c
   ·subst hcc;exact ⟨_,hc'⟩
   ·obtain ⟨w2,z2⟩:=I.cell y c' e
    exact ⟨w2,z2.sameBut hs hcc⟩
  ·obtain ⟨e,n,ne,nf,d⟩:=I.pin p hp
   refine ⟨(hs.2 p.1 ?_).trans e,n,ne,nf,d⟩
   intro q
   rw [q,hoc] at e
   have q':oc=p.2:=Option.some.inj e
   exact d w' (by rw [<- q'];exact hocd)
theorem zEA {E:VSt} {Q:Unit->Shared->Prop} (I:Inv X pins σ H s) (hN:X.N.Nodup) (hi:X.N[i]?=some x) (hx:Loc X.env.scope x) (r:y8 v u) (h:∀ s',Inv X pins (σ.set i (some v)) H s'->Q () s') (hf:X.fn x=true\/X.env.scope.names.lookup x=some .local:=by first|exact .inl rfl|exact .inr rfl|assumption):wpAny M A (storeName X.env x u) Q E s:=
 zGu I hN hi hx r (λs' I' _=>h s' I') hf
theorem Inv.call' {s':Shared} (I:Inv X pins σ H s) (ho:s'.os=s.os) (u:Un (frs X.stack) ch H H' s.heap s'.heap) (hok:HOk X.prog X.w H' s'.heap) (hg:AllBare s'.gens) (hch:∀ b∈ch,(b∈X.ex\/X.s₀.heap.objs.size<=b)/\b≠X.env.locals/\(∀ x c,X.env.cells.lookup x=some c->c≠b)/\∀ p∈X.pn++pins,p.1≠b):Inv X pins σ H' s':=by
 obtain ⟨h',g',d',t',o'⟩:=s'
 have e:o'=s.os:=ho
 subst e
 exact I.call (g':=g') (t':=t') (d':=d') u hok hg hch
end
abbrev XK:=Value->Option Addr->Hp->Prop
abbrev St:=List (Option V)
abbrev VK:=V->Hp->Prop
abbrev TE:=St->Hp->VK->Prop
abbrev TT:=St->Hp->(Bool->Hp->Prop)->Prop
abbrev TA:=St->Hp->(List V->Hp->Prop)->Prop
structure zKS where
 nx:St->Hp->Prop
 rt:VK
 bk:St->Hp->Prop:=λ_ _=>False
 ct:St->Hp->Prop:=λ_ _=>False
abbrev TS:=zKS->St->Hp->Prop
def EP (X:Cx) (pins:PNt) (σ:St) (Q:VK) (u:Value) (s':Shared):Prop:=∃ v H',Inv X pins σ H' s'/\y8 v u/\Q v H'
def TP (X:Cx) (pins:PNt) (σ:St) (Q:Bool->Hp->Prop) (b:Bool) (s':Shared):Prop:=∃ H',Inv X pins σ H' s'/\Q b H'
def AP (X:Cx) (pins:PNt) (σ:St) (Q:List V->Hp->Prop) (us:List Value) (s':Shared):Prop:=∃ vs H',Inv X pins σ H' s'/\yI vs us/\Q vs H'
def SP (X:Cx) (pins:PNt) (D:zKS) (f:Flow) (s':Shared):Prop:=
 match f with
 |.next=>∃ σ' H',Inv X pins σ' H' s'/\D.nx σ' H'
 |.brk=>∃ σ' H',Inv X pins σ' H' s'/\D.bk σ' H'
 |.cont=>∃ σ' H',Inv X pins σ' H' s'/\D.ct σ' H'
 |.ret u=>∃ v σ' H',Inv X pins σ' H' s'/\y8 v u/\D.rt v H'
def PE (X:Cx) (e:Expr) (t:TE):Prop:=
 ∀ (pins:PNt) (s:Shared) (σ:St) (H:Hp) (Q:VK),Inv X pins σ H s->t σ H Q->wpAny (model X.prog X.w) X.A (eval e X.env) (EP X pins σ Q) X.xe s
def PT (X:Cx) (e:Expr) (t:TT):Prop:=
 ∀ (pins:PNt) (s:Shared) (σ:St) (H:Hp) (Q:Bool->Hp->Prop),Inv X pins σ H s->t σ H Q->wpAny (model X.prog X.w) X.A (isTrue e X.env (eval e X.env)) (TP X pins σ Q) X.xe s
def PW (X:Cx) (e:Expr) (t:TT):Prop:=
 ∀ (whole:Sem Value) (pins:PNt) (s:Shared) (σ:St) (H:Hp) (Q:Bool->Hp->Prop),Inv X pins σ H s->t σ H Q->wpAny (model X.prog X.w) X.A (isTrue e X.env whole) (TP X pins σ Q) X.xe s
theorem PW.pt (h:PW X e t):PT X e t:=h _
def PA (X:Cx) (es:List Expr) (t:TA):Prop:=
 ∀ (pos:Pos) (pins:PNt) (s:Shared) (σ:St) (H:Hp) (Q:List V->Hp->Prop),Inv X pins σ H s->t σ H Q->wpAny (model X.prog X.w) X.A (spliced (backTo pos (starEach es X.env))) (AP X pins σ Q) X.xe s
def PS (X:Cx) (st:Stmt) (t:TS):Prop:=
 ∀ (pins:PNt) (s:Shared) (σ:St) (H:Hp) (D:zKS),Inv X pins σ H s->t D σ H->wpAny (model X.prog X.w) X.A (exec st X.env) (SP X pins D) X.xe s
def PSs (X:Cx) (st:List Stmt) (t:TS):Prop:=
 ∀ (pins:PNt) (s:Shared) (σ:St) (H:Hp) (D:zKS),Inv X pins σ H s->t D σ H->wpAny (model X.prog X.w) X.A (execs st X.env) (SP X pins D) X.xe s
theorem thn {α:Type} {t:Sem α} {Q Q':α->Shared->Prop} {M:Model} {A:Around} {E:VSt} {s:Shared} (h:wpAny M A t Q E s) (hQ:∀ a s,Q a s->Q' a s):wpAny M A t Q' E s:=wpAny_mono h hQ λ_ _ x=>x
end L2
namespace L2
open PySem PySem.Spec PyProof.Rows
section
variable {X:Cx}
theorem bin (ha:PE X a ta) (hb:PE X b tb) {pins:PNt} {R:V->V->Hp->Prop} (I:Inv X pins σ H s) (h:ta σ H λx H1=>tb σ H1 λy H2=>R x y H2) {α:Type} {Q:α->Shared->Prop} {f:Value->Value->Sem α} (hf:∀ v u s2 x y H2,Inv X pins σ H2 s2->y8 x v->y8 y u->R x y H2->wpAny (model X.prog X.w) X.A (f v u) Q X.xe s2) :
  wpAny (model X.prog X.w) X.A (eval a X.env) (λv s₁=>wpAny (model X.prog X.w) X.A (eval b X.env) (λu s₂=>wpAny (model X.prog X.w) X.A (f v u) Q X.xe s₂) X.xe s₁) X.xe s:=by
 refine thn (ha pins s σ H _ I h) λv s1 zz=>?_
 obtain ⟨x,H1,I1,r1,q1⟩:=zz
 refine thn (hb pins s1 σ H1 _ I1 q1) λu s2 zz=>?_
 obtain ⟨y,H2,I2,r2,q2⟩:=zz
 exact hf v u s2 x y H2 I2 r1 r2 q2
def zDq (i:Nat):TE:=λσ H Q=>∃ v,σ[i]?=some (some v)/\Q v H
def tC (v:V):TE:=λ_ H Q=>Q v H
theorem zOg (hN:X.N[i]?=some x) (hv:Vis X.env.scope x) (hd:(x == ("__debug__" : Str))=false:=by decide) (hcd:(x == ("__classdict__" : Str))=false:=by decide):PE X (.Name x pos) (zDq i):=by
 intro pins s σ H Q I h
 obtain ⟨v,e,h⟩:=h
 obtain ⟨m,hn,hl⟩:=I.loc
 obtain ⟨u,r,l⟩:=hl i x v hN e hv
 have fin:EP X pins σ Q u s:=⟨v,H,I,r,h⟩
 rcases l with ⟨hk,hm⟩|⟨hk,c,hc,hcell⟩
 ·exact wpAny_Name (wpAny_loadName_local I.ok.kind hk hn hm fin) hd
 ·rcases hk with hk|hk
  ·exact wpAny_Name (wpAny_loadName_cell I.ok.kind hk hc hcell fin) hd
  ·exact wpAny_Name (wpAny_loadName_free I.ok.kind hk hc hcell fin hcd) hd
theorem zR1 {i j pos}:PE X (.Constant (.int i) j pos) (tC (.int i)):=λ_ _ _ H _ I h=>wpAny_Constant_int ⟨.int i,H,I.tok _,⟨_,rfl⟩,h⟩
theorem pe_bl {b j pos}:PE X (.Constant (.bool b) j pos) (tC (.bl b)):=λ_ _ _ H _ I h=>Constant_bool ⟨.bl b,H,I,rfl,h⟩
theorem zOh {j pos}:PE X (.Constant .none j pos) (tC .non):=λ_ _ _ H _ I h=>Constant_none ⟨.non,H,I,rfl,h⟩
theorem zOi {x j pos}:PE X (.Constant (.str x) j pos) (tC (.str x)):=λ_ _ _ H _ I h=>Calls.Constant_str ⟨.str x,H,I.tok _,⟨_,rfl⟩,h⟩
def Gl (X:Cx) (x:Str):Prop:=X.env.kindOf x=some .globalImplicit
theorem zDS {E:VSt} {Q:VSt} (I:Inv X pins σ H s) (hg:Gl X x) (hm:X.mg x=some u) (h:Q u s) (hd:(x == ("__debug__" : Str))=false:=by decide):wpAny (model X.prog X.w) X.A (eval (.Name x pos) X.env) Q E s:=
 Calls.Name_function_global I.ok.kind hg (Calls.loadGlobal_global (by rw [I.ok.glob];exact I.mod.glob.keeps I.bk) hm h) hd
theorem zFc {E:VSt} {Q:VSt} (I:Inv X pins σ H s) (hg:Gl X x) (hm:X.mg x=none) (hv:bootBuiltins x=some u) (h:Q u s) (hn:x ≠ "__name__":=by decide) (hd:(x == ("__debug__" : Str))=false:=by decide):wpAny (model X.prog X.w) X.A (eval (.Name x pos) X.env) Q E s:=by
 obtain ⟨mb,h1,h2⟩:=I.mod.blt
 exact Calls.Name_function_global I.ok.kind hg (Calls.loadGlobal_builtin (by rw [I.ok.glob];exact I.mod.glob.keeps I.bk) hm (by rw [I.ok.blt];exact h1.keeps I.bk) ((h2 x hn).trans hv) h) hd
theorem zKT (hg:Gl X x) (hm:X.mg x=some u) (r:y8 v u) (hd:(x == ("__debug__" : Str))=false:=by decide):PE X (.Name x pos) (tC v):=
 λ_ _ _ H _ I h=>zDS I hg hm ⟨v,H,I,r,h⟩ hd
theorem zKU (hg:Gl X x) (hm:X.mg x=none) (hv:bootBuiltins x=some u) (r:y8 v u) (hn:x ≠ "__name__":=by decide) (hd:(x == ("__debug__" : Str))=false:=by decide):PE X (.Name x pos) (tC v):=
 λ_ _ _ H _ I h=>zFc I hg hm hv ⟨v,H,I,r,h⟩ hn hd
def t2I (ta tb:TE) (k:Int->Int->Hp->Prop):St->Hp->Prop:=λσ H=>ta σ H λx H1=>tb σ H1 λy H2=>∃ i j,x = .int i/\y = .int j/\k i j H2
variable {a b:Expr} {ta tb:TE} {pos:Pos}
def PC (X:Cx) (op:CmpOp) (a b:Expr) (t:TE):Prop:=
 ∀ (pins:PNt) (s:Shared) (σ:St) (H:Hp) (Q:VK),Inv X pins σ H s->t σ H Q ->
  wpAny (model X.prog X.w) X.A (eval a X.env) (λv s₁=>wpAny (model X.prog X.w) X.A (eval b X.env) (λu s₂=>wpAny (model X.prog X.w) X.A (compareOp op v u) (EP X pins σ Q) X.xe s₂) X.xe s₁) X.xe s
theorem zIm (b:Expr) (h:op≠.In) (h2:op≠.NotIn):behindInMarks op b=false:=by
 have e1:(op == CmpOp.In)=false:=by cases op<;>first|rfl|exact absurd rfl h
 have e2:(op == CmpOp.NotIn)=false:=by cases op<;>first|rfl|exact absurd rfl h2
 cases b<;>simp [behindInMarks,e1,e2]
def tCmp (p:Int->Int->Bool) (ta tb:TE):TE:=λσ H Q=>t2I ta tb (λi j H2=>Q (.bl (p i j)) H2) σ H
abbrev tGt:TE->TE->TE:=tCmp λi j=>decide (j<i)
def tB (t:TE):TT:=λσ H Q=>t σ H λx H1=>∃ c,x = .bl c/\Q c H1
theorem zR2 (h:PC X op a b t) (h1:behindInMarks op b=false:=by first|exact zIm _ (by decide) (by decide)|rfl):PE X (.Compare a [op] [b] pos) t:=λpins s σ H Q I hw=>wpAny_Compare1 (h pins s σ H Q I hw) h1
theorem zOj {op:CmpOp} {t:TE} (h:PC X op a b t) (h1:behindInMarks op b=false:=by first|exact zIm _ (by decide) (by decide)|rfl):PT X (.Compare a [op] [b] pos) (tB t):=by
 intro pins s σ H Q I hw
 refine wpAny_isTrue_Compare1 (thn (h pins s σ H _ I hw) λv s1 h1=>thn h1 λu s2 h2=>thn h2 λc s3 ⟨x,H1,I1,r1,q1⟩=>?_) h1
 obtain ⟨d,rfl,q⟩:=q1
 cases r1
 exact wpAny_truthy_bool ⟨H1,I1,q⟩
theorem zKV {e:Expr} {t:TE} (h:PE X e t) (he:∀ whole,isTrue e X.env whole=(do let v <- whole;standAt e.pos;holding [v] (truthy v)):=by intro _;rfl):PT X e (tB t):=by
 intro pins s σ H Q I hw
 refine isTrue_plain (thn (h pins s σ H _ I hw) λv s1 ⟨x,H1,I1,r1,q1⟩=>?_) (he _)
 obtain ⟨d,rfl,q⟩:=q1
 cases r1
 exact wpAny_truthy_bool ⟨H1,I1,q⟩
variable {tA tB':TT} {rest:List Expr}
def tAnd (t u:TT):TT:=λσ H Q=>t σ H λc H1=>if c=true then u σ H1 Q else Q false H1
def tOr (t u:TT):TT:=λσ H Q=>t σ H λc H1=>if c=true then Q true H1 else u σ H1 Q
def tNot (t:TT):TT:=λσ H Q=>t σ H λc H1=>Q (!c) H1
theorem zKW (ha:PT X a tA):PW X (.BoolOp .And [a] pos) tA:=by
 intro wh pins s σ H Q I h
 refine isTrue_and (thn (ha pins s σ H Q I h) λc s1 e=>?_)
 cases c with
 |true=>exact isTrue_and_nil e
 |false=>exact e
theorem zR3 (ha:PT X a tA):PW X (.BoolOp .Or [a] pos) tA:=by
 intro wh pins s σ H Q I h
 refine isTrue_or (thn (ha pins s σ H Q I h) λc s1 e=>?_)
 cases c with
 |false=>exact isTrue_or_nil e
 |true=>exact e
theorem zKX (ha:PT X a tA) (hb:PW X (.BoolOp .And (b::rest) pos) tB'):PW X (.BoolOp .And (a::b::rest) pos) (tAnd tA tB'):=by
 intro wh pins s σ H Q I h
 refine isTrue_and (thn (ha pins s σ H _ I h) λc s1 zz=>?_)
 obtain ⟨H1,I1,q1⟩:=zz
 cases c with
 |true=>exact hb wh pins s1 σ H1 Q I1 q1
 |false=>exact ⟨H1,I1,q1⟩
theorem pw_or (ha:PT X a tA) (hb:PW X (.BoolOp .Or (b::rest) pos) tB'):PW X (.BoolOp .Or (a::b::rest) pos) (tOr tA tB'):=by
 intro wh pins s σ H Q I h
 refine isTrue_or (thn (ha pins s σ H _ I h) λc s1 zz=>?_)
 obtain ⟨H1,I1,q1⟩:=zz
 cases c with
 |true=>exact ⟨H1,I1,q1⟩
 |false=>exact hb wh pins s1 σ H1 Q I1 q1
theorem zOk (ha:PT X a tA):PT X (.UnaryOp .Not a pos) (tNot tA):=by
 intro pins s σ H Q I h
 exact isTrue_not (ha pins s σ H (λc H1=>Q (!c) H1) I h)
def tAndV (ta tb:TE):TE:=λσ H Q=>ta σ H λx H1=>∃ c,x = .bl c/\if c=true then tb σ H1 Q else Q (.bl false) H1
def tOrV (ta tb:TE):TE:=λσ H Q=>ta σ H λx H1=>∃ c,x = .bl c/\if c=true then Q (.bl true) H1 else tb σ H1 Q
theorem zR4 {op} (h:PE X a t):PE X (.BoolOp op [a] pos) t:=λpins s σ H Q I hw=>BoolOp_one (h pins s σ H Q I hw)
theorem zR5 (ha:PE X a ta) (hb:PE X (.BoolOp .And (b::rest) pos) tb):PE X (.BoolOp .And (a::b::rest) pos) (tAndV ta tb):=by
 intro pins s σ H Q I h
 refine BoolOp_and (thn (ha pins s σ H _ I h) λv s1 zz=>?_)
 obtain ⟨x,H1,I1,r1,q1⟩:=zz
 obtain ⟨c,rfl,q1⟩:=q1
 cases r1
 refine wpAny_truthy_bool ?_
 cases c with
 |true=>exact hb pins s1 σ H1 Q I1 q1
 |false=>exact ⟨.bl false,H1,I1,rfl,q1⟩
theorem pe_or (ha:PE X a ta) (hb:PE X (.BoolOp .Or (b::rest) pos) tb):PE X (.BoolOp .Or (a::b::rest) pos) (tOrV ta tb):=by
 intro pins s σ H Q I h
 refine BoolOp_or (thn (ha pins s σ H _ I h) λv s1 zz=>?_)
 obtain ⟨x,H1,I1,r1,q1⟩:=zz
 obtain ⟨c,rfl,q1⟩:=q1
 cases r1
 refine wpAny_truthy_bool ?_
 cases c with
 |false=>exact hb pins s1 σ H1 Q I1 q1
 |true=>exact ⟨.bl true,H1,I1,rfl,q1⟩
def tIf (t:TT) (ta tb:TE):TE:=λσ H Q=>t σ H λc H1=>if c=true then ta σ H1 Q else tb σ H1 Q
theorem zM8 {c:Expr} (hc:PT X c tA) (ha:PE X a ta) (hb:PE X b tb):PE X (.IfExp c a b pos) (tIf tA ta tb):=by
 intro pins s σ H Q I h
 refine wpAny_IfExp (thn (hc pins s σ H _ I h) λd s1 zz=>?_)
 obtain ⟨H1,I1,q1⟩:=zz
 cases d with
 |true=>exact ha pins s1 σ H1 Q I1 q1
 |false=>exact hb pins s1 σ H1 Q I1 q1
end
end L2
namespace L2
open PySem PySem.Spec PyProof.Rows
def SqL (K:Fg) (H:Hp) (a:Addr) (xs:List V):Prop:=
 Rd H a (.lst xs) \/
  ∃ (o:Obj) (its:Array Value) (n:Nat),K.lookup a=some o/\o.cls = .type "list"/\o.dict=none/\o.data = .seq its n/\its.size<=sizeLine/\yI xs its.toList
def SqT (K:Fg) (H:Hp) (a:Addr) (xs:List V):Prop:=
 Rd H a (.tup xs) \/
  ∃ (o:Obj) (its:Array Value) (n:Nat),K.lookup a=some o/\o.cls = .type "tuple"/\o.dict=none/\o.data = .seq its n/\its.size<=sizeLine/\yI xs its.toList
def absV:Value->Option V
 |.none=>some .non
 |.bool b=>some (.bl b)
 |.int i _=>some (.int i)
 |.str x _=>some (.str x)
 |.bytes b _=>some (.byt b)
 |.float b _=>some (.flt b)
 |.ref a=>some (.ref a)
 |.type n=>some (.ty n)
 |_=>none
theorem y8.abs (r:y8 x u):absV u=some x:=by
 cases x with
 |non=>cases r;rfl
 |bl _=>cases r;rfl
 |int _=>obtain ⟨t,rfl⟩:=r;rfl
 |str _=>obtain ⟨t,rfl⟩:=r;rfl
 |byt _=>obtain ⟨t,rfl⟩:=r;rfl
 |flt _=>obtain ⟨t,rfl⟩:=r;rfl
 |ref _=>cases r;rfl
 |ty _=>cases r;rfl
theorem y8.inj {x y:V} {u:Value} (r:y8 x u) (q:y8 y u):x=y:=Option.some.inj (r.abs.symm.trans q.abs)
theorem yI.inj:∀ {xs ys:List V} {us:List Value},yI xs us->yI ys us->xs=ys
 |_,_,_,.nil,.nil=>rfl
 |_,_,_,.cons r t,.cons r' t'=>by rw [r.inj r',yI.inj t t']
section
variable {X:Cx} {pins:PNt} {σ:St} {H:Hp} {s:Shared} {a:Addr} {xs ys:List V}
theorem SqL.of {K:Fg} (h:H a=some (.lst xs)):SqL K H a xs:=.inl (.inl h)
theorem SqT.of {K:Fg} (h:H a=some (.tup xs)):SqT K H a xs:=.inl (.inl h)
theorem Inv.list (I:Inv X pins σ H s) (h:SqL X.K H a xs):∃ its:List Value,yI xs its/\PlainL s.heap a its.toArray/\xs.length<=sizeLine:=by
 rcases h with h|⟨o,its,n,hk,hc,hd,hs,hz,r⟩
 ·obtain ⟨z,its,n,r,e⟩:=h.ok I.hok
  exact ⟨its,r,⟨_,n,e,rfl,rfl,rfl⟩,z⟩
 ·refine ⟨its.toList,r,⟨o,n,I.kIn a o hk,hc,hd,by simpa using hs⟩,?_⟩
  have e:=r.length
  simp only [Array.length_toList] at e
  omega
theorem Inv.tupleN (I:Inv X pins σ H s) (h:SqT X.K H a xs):∃ its:List Value,yI xs its/\zBs s.heap a its.toArray/\xs.length<=sizeLine:=by
 rcases h with h|⟨o,its,n,hk,hc,hd,hs,hz,r⟩
 ·obtain ⟨z,its,r,p⟩:=h.ok I.hok
  exact ⟨its,r,p,z⟩
 ·refine ⟨its.toList,r,⟨o,I.kIn a o hk,hc,n,by simpa using hs,hd⟩,?_⟩
  have e:=r.length
  simp only [Array.length_toList] at e
  omega
theorem Inv.tuple (I:Inv X pins σ H s) (h:SqT X.K H a xs):∃ its:List Value,yI xs its/\IsTup s.heap a its.toArray/\xs.length<=sizeLine:=
 let ⟨its,r,p,z⟩:=I.tupleN h
 ⟨its,r,p.tup,z⟩
theorem Inv.list_inj (I:Inv X pins σ H s) (h:SqL X.K H a xs) (h':SqL X.K H a ys):xs=ys:=by
 obtain ⟨its,r,⟨o,n,e,_,_,d⟩,_⟩:=I.list h
 obtain ⟨its',r',⟨o',n',e',_,_,d'⟩,_⟩:=I.list h'
 rw [e] at e';cases e'
 rw [d] at d'
 injection d' with d1 _
 have:its=its':=by simpa using congrArg Array.toList d1
 subst this
 exact r.inj r'
theorem Inv.tuple_inj (I:Inv X pins σ H s) (h:SqT X.K H a xs) (h':SqT X.K H a ys):xs=ys:=by
 obtain ⟨its,r,⟨o,e,_,n,d⟩,_⟩:=I.tuple h
 obtain ⟨its',r',⟨o',e',_,n',d'⟩,_⟩:=I.tuple h'
 rw [e] at e';cases e'
 rw [d] at d'
 injection d' with d1 _
 have:its=its':=by simpa using congrArg Array.toList d1
 subst this
 exact r.inj r'
end
abbrev Cx.wish (X:Cx) (E:VSt):Cx:={ X with xe:=E }
abbrev Cx.nox (X:Cx):Cx:=X.wish λ_ _=>False
theorem Cx.Ok.wish {X:Cx} (ok:X.Ok) (E:VSt):(X.wish E).Ok:=
 ⟨ok.mod,ok.kind,ok.glob,ok.blt,ok.above,ok.inj,ok.has,ok.cab,ok.hd,ok.frames,ok.stk,ok.exf,ok.bs,ok.bsz,ok.noex,ok.exfs,ok.funs,ok.frf⟩
theorem Cx.Ok.unwish {X:Cx} {E:VSt} (ok:(X.wish E).Ok):X.Ok:=
 ⟨ok.mod,ok.kind,ok.glob,ok.blt,ok.above,ok.inj,ok.has,ok.cab,ok.hd,ok.frames,ok.stk,ok.exf,ok.bs,ok.bsz,ok.noex,ok.exfs,ok.funs,ok.frf⟩
section
variable {X:Cx} {pins:PNt} {σ:St} {H:Hp} {s:Shared} {E:VSt}
theorem Inv.wish (I:Inv X pins σ H s) (E:VSt):Inv (X.wish E) pins σ H s:=⟨I.ok.wish E,I.os,I.bare,I.base,I.loc,I.cell,I.free,I.freeC,I.pin,I.hok,I.len⟩
theorem Inv.unwish (I:Inv (X.wish E) pins σ H s):Inv X pins σ H s:=⟨I.ok.unwish,I.os,I.bare,I.base,I.loc,I.cell,I.free,I.freeC,I.pin,I.hok,I.len⟩
theorem SP.unwish (h:SP (X.wish E) pins D f s'):SP X pins D f s':=by
 cases f with
 |next=>obtain ⟨σ',H',I,q⟩:=h;exact ⟨σ',H',I.unwish,q⟩
 |brk=>obtain ⟨σ',H',I,q⟩:=h;exact ⟨σ',H',I.unwish,q⟩
 |cont=>obtain ⟨σ',H',I,q⟩:=h;exact ⟨σ',H',I.unwish,q⟩
 |ret u=>obtain ⟨v,σ',H',I,r,q⟩:=h;exact ⟨v,σ',H',I.unwish,r,q⟩
theorem PSs.nox {st:List Stmt} (h:PSs X.nox st t):PSs X st t:=λpins s σ H D I hw=>
 wpAny_mono (h pins s σ H D (I.wish _) hw) (λ_ _ q=>q.unwish) λ_ _ z=>False.elim z
end
section
variable {X:Cx} {st:Stmt} {rest:List Stmt} {t u:TS} {e:Expr} {te:TE} {pos:Pos}
def tNext:TS:=λD σ H=>D.nx σ H
def tSeq (t u:TS):TS:=λD σ H=>t { D with nx:=u D } σ H
theorem zKY:PSs X [] tNext:=λ_ _ σ H _ I h=>wpAny_execs_nil ⟨σ,H,I,h⟩
theorem zIn (h1:PS X st t) (h2:PSs X rest u):PSs X (st::rest) (tSeq t u):=by
 intro pins s σ H D I h
 refine wpAny_execs_cons (thn (h1 pins s σ H { D with nx:=u D } I h) λf s1 q=>?_)
 cases f with
 |next=>
  obtain ⟨σ',H',I',q⟩:=q
  exact h2 pins s1 σ' H' D I' q
 |ret v=>exact q
 |brk=>exact q
 |cont=>exact q
theorem zF7 (h1:PS X st t):PSs X [st] t:=by
 intro pins s σ H D I h
 refine wpAny_execs_cons (thn (h1 pins s σ H D I h) λf s1 q=>?_)
 cases f with
 |next=>exact wpAny_execs_nil q
 |ret v=>exact q
 |brk=>exact q
 |cont=>exact q
def tCont:TS:=λD σ H=>D.ct σ H
theorem zHw:PS X (.Continue pos) tCont:=λ_ _ σ H _ I h=>wpAny_Continue ⟨σ,H,I,h⟩
theorem Inv.quiet {pins:PNt} {σ:St} {H:Hp} {s:Shared} (I:Inv X pins σ H s):interactive X.env=false:=by simp [interactive,I.ok.kind]
def tDrop (te:TE):TS:=λD σ H=>te σ H λ_ H1=>D.nx σ H1
theorem zEX (he:PE X e te) (hs:swapsWith e none pos.line X.env=pure false:=by rfl):PS X (.Expr e pos) (tDrop te):=by
 intro pins s σ H D I h
 exact wpAny_Expr_any (thn (he pins s σ H _ I h) λv s1 ⟨x,H1,I1,r1,q1⟩=>⟨σ,H1,I1,q1⟩) I.quiet hs
def tRet (te:TE):TS:=λD σ H=>te σ H D.rt
theorem zIo (he:PE X e te):PS X (.Return (some e) pos) (tRet te):=by
 intro pins s σ H D I h
 exact wpAny_Return_some (thn (he pins s σ H _ I h) λv s1 ⟨x,H1,I1,r1,q1⟩=>⟨x,σ,H1,I1,r1,q1⟩)
def tIfS (c:TT) (t u:TS):TS:=λD σ H=>c σ H λb H1=>if b=true then t D σ H1 else u D σ H1
theorem zPd {a b:List Stmt} (hc:PT X c tc) (ha:PSs X a t) (hb:PSs X b u):PS X (.If c a b pos) (tIfS tc t u):=by
 intro pins s σ H D I h
 refine wpAny_If (thn (hc pins s σ H _ I h) λd s1 zz=>?_)
 obtain ⟨H1,I1,q1⟩:=zz
 cases d with
 |true=>exact ha pins s1 σ H1 D I1 q1
 |false=>exact hb pins s1 σ H1 D I1 q1
end
abbrev TG:=V->St->Hp->(St->Hp->Prop)->Prop
abbrev TGs:=List V->St->Hp->(St->Hp->Prop)->Prop
def PG (X:Cx) (target:Expr) (t:TG):Prop:=
 ∀ (pins:PNt) (s:Shared) (σ:St) (H:Hp) (v:V) (u:Value) (Q:St->Hp->Prop),Inv X pins σ H s->y8 v u->t v σ H Q ->
  wpAny (model X.prog X.w) X.A (assign target X.env u) (λ_ s'=>∃ σ' H',Inv X pins σ' H' s'/\Q σ' H') X.xe s
def PGs (X:Cx) (ts:List Expr) (t:TGs):Prop:=
 ∀ (pins:PNt) (s:Shared) (σ:St) (H:Hp) (vs:List V) (us:List Value) (Q:St->Hp->Prop),Inv X pins σ H s->yI vs us->t vs σ H Q ->
  wpAny (model X.prog X.w) X.A (assignInOrder ((assignEach ts X.env).map (·.2)) us) (λ_ s'=>∃ σ' H',Inv X pins σ' H' s'/\Q σ' H') X.xe s
abbrev TSet:=V->V->V->Hp->(Hp->Prop)->Prop
def PSet (X:Cx) (t:TSet):Prop:=
 ∀ (pins:PNt) (s:Shared) (σ:St) (H:Hp) (o i v:V) (ov iv u:Value) (Q:Hp->Prop),Inv X pins σ H s->y8 o ov->y8 i iv->y8 v u->t o i v H Q ->
  wpAny (model X.prog X.w) X.A (setItem ov iv u) (λ_ s'=>∃ H',Inv X pins σ H' s'/\Q H') X.xe s
section
variable {X:Cx} {pos:Pos}
def zR6 (i:Nat):TG:=λv σ H Q=>Q (σ.set i (some v)) H
theorem zPe (hN:X.N.Nodup) (hi:X.N[i]?=some x) (hx:Loc X.env.scope x) (hf:X.fn x=true\/X.env.scope.names.lookup x=some .local:=by first|exact .inl rfl|exact .inr rfl|assumption):PG X (.Name x pos) (zR6 i):=by
 intro pins s σ H v u Q I r h
 exact wpAny_assign_Name (zEA I hN hi hx r (λs' I'=>⟨_,H,I',h⟩) hf)
def gNil:TGs:=λvs σ H Q=>vs = []/\Q σ H
def gCons (t:TG) (u:TGs):TGs:=λvs σ H Q=>∃ v r,vs=v::r/\t v σ H λσ' H'=>u r σ' H' Q
theorem zPf:PGs X [] gNil:=by
 intro pins s σ H vs us Q I r h
 obtain ⟨e,h⟩:=h
 subst e
 cases r
 exact assignInOrder_nil ⟨σ,H,I,h⟩
theorem zM9 {es:List Expr} (h1:PG X e t) (h2:PGs X es u) (hs:(assignEach (e::es) X.env).map (·.2)=assign e X.env::(assignEach es X.env).map (·.2):=by rfl):PGs X (e::es) (gCons t u):=by
 intro pins s σ H vs us Q I r h
 obtain ⟨v,vr,e1,h⟩:=h
 subst e1
 cases r with
 |cons r rr=>
  rw [hs]
  refine assignInOrder_cons (thn (h1 pins s σ H _ _ _ I r h) λ_ s1 zz=>?_)
  obtain ⟨σ1,H1,I1,q1⟩:=zz
  exact h2 pins s1 σ1 H1 _ _ Q I1 rr q1
def gTup (K:Fg) (n:Nat) (t:TGs):TG:=λv σ H Q=>∃ a xs,v = .ref a/\SqT K H a xs/\xs.length=n/\t xs σ H Q
theorem zR7 (hc:X.calm=true) (h:PGs X es t) (hn:(assignEach es X.env).length=n:=by rfl) (hst:(assignEach es X.env).findIdx? (·.1)=none:=by rfl):PG X (.Tuple es k pos) (gTup X.K n t):=by
 intro pins s σ H v u Q I r hw
 obtain ⟨a,xs,e1,hq,hl,hw⟩:=hw
 subst e1
 cases r
 obtain ⟨its,rv,ht,hz⟩:=I.tuple hq
 refine assign_Tuple_tuple (I.ok.hd hc) ht (by simp [hn,<- hl,rv.length]) hst λh' hx=>?_
 have I1:Inv X pins σ H { s with heap:=h' }:=I.kept (t':=s.toks) λb o e=>hx b o (Nat.ne_of_lt (Heap.lt_size e)) e
 exact h pins _ σ H xs _ Q I1 (by simpa using rv) hw
def gSub (to ti:TE) (t:TSet):TG:=λv σ H Q=>to σ H λo H1=>ti σ H1 λi H2=>t o i v H2 λH3=>Q σ H3
theorem zR8 {o i:Expr} {to ti:TE} {t:TSet} (ho:PE X o to) (hi:PE X i ti) (hs:PSet X t)
  (ha:∀ v,assign (.Subscript o i pos) X.env v=(do
   let ov <- holding [v] (eval o X.env)
   let iv <- holding [v,ov] (eval i X.env)
   standAt pos
   holding [v,ov,iv] (setItem ov iv v)
   release [v,ov,iv] []):=by intro _;rfl):PG X (.Subscript o i pos) (gSub to ti t):=by
 intro pins s σ H v u Q I r h
 rw [ha]
 refine wpAny_bind (wpAny_holding (thn (ho pins s σ H _ I h) λov s1 zz=>?_))
 obtain ⟨x,H1,I1,r1,q1⟩:=zz
 refine wpAny_bind (wpAny_holding (thn (hi pins s1 σ H1 _ I1 q1) λiv s2 zz=>?_))
 obtain ⟨y,H2,I2,r2,q2⟩:=zz
 refine wpAny_bind (wpAny_standAt (wpAny_bind (wpAny_holding (thn (hs pins s2 σ H2 x y v ov iv u _ I2 r1 r2 r q2) λ_ s3 zz=>?_))))
 obtain ⟨H3,I3,q3⟩:=zz
 exact wpAny_release ⟨σ,H3,I3,q3⟩
def tAsg (te:TE) (g:TG):TS:=λD σ H=>te σ H λx H1=>g x σ H1 D.nx
theorem zOl {tg e:Expr} {te:TE} {g:TG} (he:PE X e te) (hg:PG X tg g) (hs:swapsWithSole [tg] e pos.line X.env=pure false:=by rfl) (hw:swappedStores [tg] e X.env=pure none:=by rfl)
  (h1:(assignEach [tg] X.env).map (·.2) = [assign tg X.env]:=by rfl):PS X (.Assign [tg] e pos) (tAsg te g):=by
 intro pins s σ H D I h
 refine wpAny_Assign_stores (thn (he pins s σ H _ I h) λv s1 ⟨x,H1,I1,r1,q1⟩=>?_) hs hw
 rw [h1]
 exact thn (hg pins s1 σ H1 x v _ I1 r1 q1) λ_ s2 q=>q
theorem zCM {i:Nat} {x:Str} (hN:X.N.Nodup) (hi:X.N[i]?=some x) (hx:Loc X.env.scope x) (he:PE X e te) (hs:swapsWith e (some (.Name x pos')) pos.line X.env=pure false:=by rfl) (hf:X.fn x=true\/X.env.scope.names.lookup x=some .local:=by first|exact .inl rfl|exact .inr rfl|assumption) :
  PS X (.Assign [.Name x pos'] e pos) (tAsg te (zR6 i)):=by
 intro pins s σ H D I h
 refine wpAny_Assign_Name (thn (he pins s σ H _ I h) λv s1 ⟨y,H1,I1,r1,q1⟩=>?_) hs
 exact zEA I1 hN hi hx r1 (λs2 I2=>⟨_,H1,I2,q1⟩) hf
end
section
variable {X:Cx} {pos:Pos}
def zR9 (c:TT) (tb:TS):TS:=λD σ H=>∃ W:Nat->St->Hp->Prop,(∃ m,W m σ H)/\∀ m σ H,W m σ H ->
 c σ H λb H1=>if b=true then ∃ N:St->Hp->Prop,(∀ σ' H',N σ' H'->∃ m',m' < m/\W m' σ' H')/\tb { D with nx:=N,ct:=N,bk:=D.nx } σ H1 else D.nx σ H1
theorem zIp {body:List Stmt} (hp:PassesOwn (model X.prog X.w) X.A X.env X.xe) (hc:PT X c tc) (hb:PSs X body tb):PS X (.While c body [] pos) (zR9 tc tb):=by
 intro pins s σ H D I h
 obtain ⟨W,⟨m0,w0⟩,turn⟩:=h
 refine wpAny_While (codeAny_whileLoop (λn s'=>∃ σ' H',Inv X pins σ' H' s'/\W n σ' H') ?_ m0 ⟨σ,H,I,w0⟩)
 rintro n s1 ⟨σ1,H1,I1,w1⟩
 refine wpAny_passesOwn hp (thn (hc pins s1 σ1 H1 _ I1 (turn n σ1 H1 w1)) λb s2 zz=>?_)
 obtain ⟨H2,I2,q2⟩:=zz
 cases b with
 |true=>
  obtain ⟨N,hN,q2⟩:=q2
  rw [if_pos rfl]
  refine wpAny_passesOwn hp (thn (hb pins s2 σ1 H2 _ I2 q2) λf s3 q3=>?_)
  cases f with
  |next=>
   obtain ⟨σ3,H3,I3,n3⟩:=q3
   obtain ⟨m',hm,w3⟩:=hN σ3 H3 n3
   exact ⟨m',hm,σ3,H3,I3,w3⟩
  |cont=>
   obtain ⟨σ3,H3,I3,n3⟩:=q3
   obtain ⟨m',hm,w3⟩:=hN σ3 H3 n3
   exact ⟨m',hm,σ3,H3,I3,w3⟩
  |brk=>exact q3
  |ret v=>exact q3
 |false=>
  rw [if_neg Bool.false_ne_true]
  exact wpAny_execs_nil ⟨σ1,H2,I2,q2⟩
end
structure It where
 go:Nat->Hp->Prop
 yld:Nat->Hp->V->Hp->Prop
 stop:Nat->Hp->Prop
def FpOk (X:Cx) (pins:PNt) (H:Hp) (b:Addr):Prop:=
 H b=none/\b≠X.env.locals/\b∉X.fs/\(b∈X.ex\/X.s₀.heap.objs.size<=b)/\(∀ x c,X.env.cells.lookup x=some c->c≠b)/\∀ p∈X.pn++pins,p.1≠b
theorem Inv.fpOk {s:Shared} (I:Inv X pins σ H s) (hb:s.heap.objs.size<=b) (hn:H' b=none):FpOk X pins H' b:=by
 refine ⟨hn,Nat.ne_of_gt (Nat.lt_of_lt_of_le I.lt hb),I.nofs hb,.inr (Nat.le_trans I.sz hb),λx c e z=>?_,λp hp z=>?_⟩
 ·obtain ⟨v,q⟩:=I.cell x c e
  exact absurd (Nat.lt_of_lt_of_le q.lt (by rw [z];exact hb)) (Nat.lt_irrefl _)
 ·exact absurd (Nat.lt_of_lt_of_le (Heap.lt_size (I.pin p hp).1) (by rw [z];exact hb)) (Nat.lt_irrefl _)
structure zNA (P:Program) (w:World) (K:Fg) (tg:Expr) (J:It) (fp:List Addr) (it:Addr) (tn:Nat->Heap->Prop):Prop where
 mem:it∈fp
 obj:∀ i h,tn i h->∀ b∈fp,∃ o,h.get? b=some o/\∀ v,o.data≠.cell v
 keep:∀ i h h',tn i h->(∀ b∈fp,∀ o,h.get? b=some o->h'.get? b=some o)->tn i h'
 item:∀ (X:Cx),X.prog=P->X.w=w->X.K=K->X.calm=true->∀ (i:Nat) (pins:PNt) (s:Shared) (σ:St) (H:Hp) (E:VSt),Inv X pins σ H s->(∀ b∈fp,FpOk X pins H b)->tn i s.heap->J.go i H ->
  wpAny (model P w) X.A (pyNext (.ref it)) (λr s1=>∃ u,r=some u /\
   wpAny (model P w) X.A (letOwnedTupleGo tg (.ref it) u) (λ_ s2=>∃ x H',Inv X pins σ H' s2/\y8 x u/\J.yld i H x H'/\tn (i+1) s2.heap/\∀ b∈fp,H' b=none) E s1) E s
 done:∀ (X:Cx),X.prog=P->X.w=w->X.K=K->X.calm=true->∀ (i:Nat) (pins:PNt) (s:Shared) (σ:St) (H:Hp) (E:VSt),Inv X pins σ H s->(∀ b∈fp,FpOk X pins H b)->tn i s.heap->J.stop i H ->
  wpAny (model P w) X.A (pyNext (.ref it)) (λr s1=>r=none/\Inv X pins σ H s1) E s
 self:∀ (A:Around) (i:Nat) (s:Shared) (Q:VSt) (E:VSt),tn i s.heap->Q (.ref it) s->wpAny (model P w) A (pyIter (.ref it)) Q E s
abbrev TI:=St->Hp->(It->Hp->Prop)->Prop
def PIE (X:Cx) (pins:PNt) (σ:St) (tg:Expr) (R:It->Hp->Prop) (itv:Value) (s2:Shared):Prop:=
 ∃ (it:Addr) (fp:List Addr) (tn:Nat->Heap->Prop) (J:It) (H':Hp),itv = .ref it/\Inv X pins σ H' s2/\zNA X.prog X.w X.K tg J fp it tn/\tn 0 s2.heap/\(∀ b∈fp,FpOk X pins H' b)/\R J H'
def PI (X:Cx) (tg iter:Expr) (wi:TI):Prop:=
 ∀ (pins:PNt) (s:Shared) (σ:St) (H:Hp) (R:It->Hp->Prop),Inv X pins σ H s->wi σ H R ->
  wpAny (model X.prog X.w) X.A (eval iter X.env) (λv s1=>wpAny (model X.prog X.w) X.A (pyIter v) (PIE X pins σ tg R) X.xe s1) X.xe s
theorem zPg {E:VSt} {s:Shared} {o:Obj} {Q:Unit->Shared->Prop} (ho:s.heap.get? it=some o) (hc:o.cls = .type n) (hd:o.data = .fields vs) (hn : ["enumerate","zip","dict_itemiterator","dict_reverseitemiterator","odict_iterator","itertools.zip_longest","itertools.pairwise"].contains n=false) (hQ:Q () s):wpAny M A (letOwnedTupleGo tg (.ref it) u) Q E s:=by
 unfold letOwnedTupleGo
 cases tg<;>first
  |exact wpAny_pure hQ
  |(cases u<;>first
    |exact wpAny_pure hQ
    |(refine wpAny_bind (wpAny_load ho ?_)
      rw [hc,hd]
      show wpAny M A (if (["enumerate","zip","dict_itemiterator","dict_reverseitemiterator","odict_iterator","itertools.zip_longest","itertools.pairwise"].contains n && vs[0]? == some (rawInt _))=true then _ else _) Q E s
      rw [if_neg (by intro h;rw [hn,Bool.false_and] at h;cases h)]
      exact wpAny_pure hQ))
def Itl (K:Fg) (a:Addr):It:=
 ⟨λi H=>∃ xs x,SqL K H a xs/\xs[i]?=some x,λi H x H'=>H'=H/\∀ xs,SqL K H a xs->xs[i]?=some x,λi H=>∃ xs,SqL K H a xs/\xs.length<=i⟩
def Itt (K:Fg) (a:Addr):It:=
 ⟨λi H=>∃ xs x,SqT K H a xs/\xs[i]?=some x,λi H x H'=>H'=H/\∀ xs,SqT K H a xs->xs[i]?=some x,λi H=>∃ xs,SqT K H a xs/\xs.length<=i⟩
def Itr (lo:Int) (n:Nat):It:=⟨λi _=>i<n,λi H x H'=>H'=H/\x = .int (lo+i),λi _=>n<=i⟩
theorem zKZ {P:Program} {w:World} {K:Fg} {tg:Expr} (a it:Addr):zNA P w K tg (Itl K a) [it] it (λi h=>h.IsListIter it a i) where
 mem:=by simp
 obj:=λi h st b hb=>by
  have e:b=it:=by simpa using hb
  subst e
  obtain ⟨o,e,c,d⟩:=st
  exact ⟨o,e,λv z=>by rw [d] at z;cases z⟩
 keep:=λi h h' st k=>st.at λo e=>k it (by simp) o e
 item:=by
  intro X hP hw hK hc i pins s σ H E I hf st hg
  subst hP hw hK
  obtain ⟨xs,x,hq,hx⟩:=hg
  obtain ⟨its,rv,p,hz⟩:=I.list hq
  obtain ⟨u,hu,ru⟩:=rv.get hx
  obtain ⟨f0,f1,f2,f3,f4,f5⟩:=hf it (by simp)
  refine wpAny_pyNext_list_item st p.isList (x:=u) (by simpa using hu) λh' st' sb=>?_
  have I1:Inv X pins σ H { s with heap:=h' }:=I.turned (t':=s.toks) (λb o hb e=>(sb.2 b hb).trans e) f0 f1 f3 f4 f5
  obtain ⟨o,e,c,d⟩:=id st'
  exact ⟨u,rfl,zPg (s:={ s with heap:=h' }) e c d (by decide) ⟨x,H,I1,ru,⟨rfl,λys hy=>by rw [I.list_inj hy hq];exact hx⟩,st',λb hb=>(hf b hb).1⟩⟩
 done:=by
  intro X hP hw hK hc i pins s σ H E I hf st hg
  subst hP hw hK
  obtain ⟨xs,hq,hx⟩:=hg
  obtain ⟨its,rv,p,hz⟩:=I.list hq
  obtain ⟨f0,f1,f2,f3,f4,f5⟩:=hf it (by simp)
  have hl:=rv.length
  exact wpAny_pyNext_list_end (I.ok.hd hc) st p.isList (by simp;omega) λh' eb=>⟨rfl,I.turned (t':=s.toks) (λb o hb e=>eb b o hb e) f0 f1 f3 f4 f5⟩
 self:=λ_ _ _ _ _ st h=>wpAny_pyIter_listiter st h
theorem zJi {P:Program} {w:World} {K:Fg} {tg:Expr} (a it:Addr):zNA P w K tg (Itt K a) [it] it (λi h=>h.IsTupleIter it a i) where
 mem:=by simp
 obj:=λi h st b hb=>by
  have e:b=it:=by simpa using hb
  subst e
  obtain ⟨o,e,c,d⟩:=st
  exact ⟨o,e,λv z=>by rw [d] at z;cases z⟩
 keep:=λi h h' st k=>st.at λo e=>k it (by simp) o e
 item:=by
  intro X hP hw hK hc i pins s σ H E I hf st hg
  subst hP hw hK
  obtain ⟨xs,x,hq,hx⟩:=hg
  obtain ⟨its,rv,p,hz⟩:=I.tuple hq
  obtain ⟨u,hu,ru⟩:=rv.get hx
  obtain ⟨f0,f1,f2,f3,f4,f5⟩:=hf it (by simp)
  refine wpAny_pyNext_tuple_item st (show s.heap.IsTuple a its.toArray from p) (x:=u) (by simpa using hu) λh' st' sb=>?_
  have I1:Inv X pins σ H { s with heap:=h' }:=I.turned (t':=s.toks) (λb o hb e=>(sb.2 b hb).trans e) f0 f1 f3 f4 f5
  obtain ⟨o,e,c,d⟩:=id st'
  exact ⟨u,rfl,zPg (s:={ s with heap:=h' }) e c d (by decide) ⟨x,H,I1,ru,⟨rfl,λys hy=>by rw [I.tuple_inj hy hq];exact hx⟩,st',λb hb=>(hf b hb).1⟩⟩
 done:=by
  intro X hP hw hK hc i pins s σ H E I hf st hg
  subst hP hw hK
  obtain ⟨xs,hq,hx⟩:=hg
  obtain ⟨its,rv,p,hz⟩:=I.tuple hq
  obtain ⟨f0,f1,f2,f3,f4,f5⟩:=hf it (by simp)
  have hl:=rv.length
  exact wpAny_pyNext_tuple_end (I.ok.hd hc) st (show s.heap.IsTuple a its.toArray from p) (by simp;omega) λh' eb=>⟨rfl,I.turned (t':=s.toks) (λb o hb e=>eb b o hb e) f0 f1 f3 f4 f5⟩
 self:=λ_ _ _ _ _ st h=>wpAny_pyIter_tupleiter st h
theorem zJj {P:Program} {w:World} {K:Fg} {tg:Expr} (it:Addr) (lo:Int) (n:Nat):zNA P w K tg (Itr lo n) [it] it (λi h=>IsRangeIter h it (lo+(i:Nat)*1) ((n:Int)-(i:Nat)) 1) where
 mem:=by simp
 obj:=λi h st b hb=>by
  have e:b=it:=by simpa using hb
  subst e
  exact ⟨_,st,λv z=>by
   have z':Data.fields _=Data.cell v:=z
   cases z'⟩
 keep:=λi h h' st k=>k it (by simp) _ st
 item:=by
  intro X hP hw hK hc i pins s σ H E I hf st hg
  subst hP hw hK
  obtain ⟨f0,f1,f2,f3,f4,f5⟩:=hf it (by simp)
  have W:=Walks.range (prog:=X.prog) (w:=X.w) (I.ok.hd hc) it lo 1 n
  refine W.item i s _ _ hg st λv h' tk hv st' kk=>?_
  obtain ⟨t,rfl⟩:=hv
  have I1:Inv X pins σ H { s with heap:=h',toks:=tk }:=I.turned (λb o hb e=>kk b o (by simpa using hb) e) f0 f1 f3 f4 f5
  refine ⟨_,rfl,zPg (s:={ s with heap:=h',toks:=tk }) (n:="range_iterator") st' rfl rfl (by decide) ⟨.int (lo+i),H,I1,⟨t,?_⟩,⟨rfl,rfl⟩,st',λb hb=>(hf b hb).1⟩⟩
  rw [Int.mul_one]
 done:=by
  intro X hP hw hK hc i pins s σ H E I hf st hg
  subst hP hw hK
  obtain ⟨f0,f1,f2,f3,f4,f5⟩:=hf it (by simp)
  exact wpAny_pyNext_range_end (I.ok.hd hc) st (by have:n<=i:=hg;omega) λh' eb=>⟨rfl,I.turned (t':=s.toks) (λb o hb e=>eb b o hb e) f0 f1 f3 f4 f5⟩
 self:=λ_ _ _ _ _ st h=>wpAny_pyIter_rangeiter st h
end L2
namespace L2
open PySem PySem.Spec PyProof.Rows
section
variable {X:Cx} {tg:Expr}
def iList (K:Fg) (tl:TE):TI:=λσ H R=>tl σ H λx H1=>∃ a,x = .ref a/\(∃ xs,SqL K H1 a xs)/\R (Itl K a) H1
def iTup (K:Fg) (tl:TE):TI:=λσ H R=>tl σ H λx H1=>∃ a,x = .ref a/\(∃ xs,SqT K H1 a xs)/\R (Itt K a) H1
theorem zPh {l:Expr} {tl:TE} (hl:PE X l tl):PI X tg l (iList X.K tl):=by
 intro pins s σ H R I h
 refine thn (hl pins s σ H _ I h) λv s1 zz=>?_
 obtain ⟨x,H1,I1,r1,q1⟩:=zz
 obtain ⟨a,e,⟨xs,hq⟩,q⟩:=q1
 subst e
 cases r1
 obtain ⟨its,rv,p,hz⟩:=I1.list hq
 refine wpAny_pyIter_list p.isList ?_
 refine ⟨s1.heap.objs.size,[s1.heap.objs.size],_,_,H1,rfl,I1.kept (t':=s1.toks) λb o e=>Heap.get?_push_of_some _ e,zKZ a _,⟨_,Heap.get?_push_size _ rfl,rfl,rfl⟩,λb hb=>?_,q⟩
 have e:b=s1.heap.objs.size:=by simpa using hb
 subst e
 exact I1.fpOk (Nat.le_refl _) (I1.hok.fresh (Nat.le_refl _))
theorem zSA {l:Expr} {tl:TE} (hl:PE X l tl):PI X tg l (iTup X.K tl):=by
 intro pins s σ H R I h
 refine thn (hl pins s σ H _ I h) λv s1 zz=>?_
 obtain ⟨x,H1,I1,r1,q1⟩:=zz
 obtain ⟨a,e,⟨xs,hq⟩,q⟩:=q1
 subst e
 cases r1
 obtain ⟨its,rv,p,hz⟩:=I1.tuple hq
 refine wpAny_pyIter_tuple (show s1.heap.IsTuple a its.toArray from p) ?_
 refine ⟨s1.heap.objs.size,[s1.heap.objs.size],_,_,H1,rfl,I1.kept (t':=s1.toks) λb o e=>Heap.get?_push_of_some _ e,zJi a _,⟨_,Heap.get?_push_size _ rfl,rfl,rfl⟩,λb hb=>?_,q⟩
 have e:b=s1.heap.objs.size:=by simpa using hb
 subst e
 exact I1.fpOk (Nat.le_refl _) (I1.hok.fresh (Nat.le_refl _))
theorem zIq {pins:PNt} {s:Shared} {R:It->Hp->Prop} {E:VSt} {lo hi:Int} {t u v:Tok} {tk:Nat} (I:Inv X pins σ H s) (h1 : -(2 ^ 62)<=lo) (h2:lo<2 ^ 62) (h3 : -(2 ^ 62)<=hi) (h4:hi<2 ^ 62) (q:R (Itr lo (hi-lo).toNat) H):wpAny (model X.prog X.w) X.A (pyIter (.ref s.heap.objs.size)) (PIE X pins σ tg R) E { s with heap:=s.heap.push { cls:=.type "range",data:=.fields #[.int lo t,.int hi u,.int 1 v] },toks:=tk }:=by
 refine wpAny_pyIter_range (IsRange.new ..) (small_one h1 h2 h3 h4) ?_
 have I1:Inv X pins σ H { s with heap:=s.heap.push { cls:=.type "range",data:=.fields #[.int lo t,.int hi u,.int 1 v] },toks:=tk }:=I.kept λb o e=>Heap.get?_push_of_some _ e
 refine ⟨(s.heap.push { cls:=.type "range",data:=.fields #[.int lo t,.int hi u,.int 1 v] }).objs.size,[(s.heap.push { cls:=.type "range",data:=.fields #[.int lo t,.int hi u,.int 1 v] }).objs.size],_,_,H,rfl,
  I1.kept (t':=tk) λb o e=>Heap.get?_push_of_some _ e,zJj _ lo (hi-lo).toNat,?_,λb hb=>?_,q⟩
 ·have e1:lo+((0:Nat):Int)*1=lo:=by simp
  have e2:(((hi-lo).toNat:Nat):Int)-((0:Nat):Int)=Builtin.Range.rangeSize lo hi 1:=by rw [rangeSize_one];split<;>omega
  show IsRangeIter _ _ (lo+((0:Nat):Int)*1) ((((hi-lo).toNat:Nat):Int)-((0:Nat):Int)) 1
  rw [e1,e2]
  exact Heap.get?_push_size _ rfl
 ·have e:b=(s.heap.push { cls:=.type "range",data:=.fields #[.int lo t,.int hi u,.int 1 v] }).objs.size:=by simpa using hb
  subst e
  exact I1.fpOk (Nat.le_refl _) (I1.hok.fresh (Nat.le_refl _))
def iRng1 (ta:TA):TI:=λσ H R=>ta σ H λvs H1=>∃ j:Int,vs = [.int j]/\-(2 ^ 62)<=j/\j<2 ^ 62/\R (Itr 0 j.toNat) H1
def iRng2 (ta:TA):TI:=λσ H R=>ta σ H λvs H1=>∃ i j:Int,vs = [.int i,.int j]/\(-(2 ^ 62)<=i/\i<2 ^ 62/\-(2 ^ 62)<=j/\j<2 ^ 62)/\R (Itr i (j-i).toNat) H1
theorem zKa (hg:Gl X "range") (hm:X.mg "range" = none) (ha:PA X [a] ta) (hs:starEach [a] X.env = [(false,eval a X.env)]:=by rfl):PI X tg (.Call (.Name "range" p) [a] [] pos) (iRng1 ta):=by
 intro pins s σ H R I h
 refine Call_ (zFc I hg hm boot_range (PyProof.Rows.callWith_type1 (thn (ha pos pins s σ H _ I h) λus s1 ⟨vs,H1,I1,r1,q1⟩=>?_) hs rfl))
 obtain ⟨j,e,q1,q2,q⟩:=q1
 subst e
 cases r1 with
 |cons r rr=>
  cases rr
  obtain ⟨t,rfl⟩:=r
  exact call_range_1 (zIq I1 (by omega) (by omega) q1 q2 (by simpa using q))
theorem zKb (hg:Gl X "range") (hm:X.mg "range" = none) (ha:PA X [a,b] ta) (hs:starEach [a,b] X.env = [(false,eval a X.env),(false,eval b X.env)]:=by rfl) (hs2:starEach [b] X.env = [(false,eval b X.env)]:=by rfl) :
  PI X tg (.Call (.Name "range" p) [a,b] [] pos) (iRng2 ta):=by
 intro pins s σ H R I h
 refine Call_ (zFc I hg hm boot_range (PyProof.Rows.callWith_type1 (thn (ha pos pins s σ H _ I h) λus s1 ⟨vs,H1,I1,r1,q1⟩=>?_) (by rw [hs,hs2]) (by rw [hs2];rfl)))
 obtain ⟨i,j,e,⟨q1,q2,q3,q4⟩,q⟩:=q1
 subst e
 cases r1 with
 |cons r rr=>
  cases rr with
  |cons r' rr=>
   cases rr
   obtain ⟨t,rfl⟩:=r
   obtain ⟨t',rfl⟩:=r'
   exact call_range_2 (zIq I1 q1 q2 q3 q4 q)
def tFor (wi:TI) (g:TG) (tb:TS):TS:=λD σ H=>wi σ H λJ H1=>∃ W:Nat->Nat->St->Hp->Prop,(∃ m,W 0 m σ H1)/\∀ i m σ H,W i m σ H ->
 (J.stop i H/\D.nx σ H)\/(J.go i H/\∃ N:St->Hp->Prop,(∀ σ' H',N σ' H'->∃ m',m' < m/\W (i+1) m' σ' H')/\∀ x H',J.yld i H x H'->g x σ H' λσ2 H2=>tb { D with nx:=N,ct:=N,bk:=D.nx } σ2 H2)
def zGv (fp:List Addr) (h:Heap):PNt:=fp.filterMap λb=>(h.get? b).map λo=>(b,o)
theorem zCB {h:Heap} (hb:b∈fp) (e:h.get? b=some o):(b,o)∈zGv fp h:=List.mem_filterMap.mpr ⟨b,hb,by rw [e];rfl⟩
theorem zKc {h:Heap} {p:Addr×Obj} (hp:p∈zGv fp h):p.1∈fp/\h.get? p.1=some p.2:=by
 obtain ⟨b,hb,e⟩:=List.mem_filterMap.mp hp
 cases q:h.get? b with
 |none=>rw [q] at e;cases e
 |some o=>
  rw [q] at e
  have e':(b,o)=p:=Option.some.inj e
  subst e'
  exact ⟨hb,q⟩
theorem Inv.pinned {s:Shared} (I:Inv X pins σ H s) (hf:∀ b∈fp,FpOk X pins H b) (ho:∀ b∈fp,∃ o,s.heap.get? b=some o/\∀ v,o.data≠.cell v):Inv X (pins++zGv fp s.heap) σ H s:=
 I.pins_of λp hp=>(List.mem_append.mp hp).elim (λz=>I.pin p (List.mem_append_right _ z)) λz=>by
  obtain ⟨hb,e⟩:=zKc z
  obtain ⟨f0,f1,f2,_⟩:=hf p.1 hb
  obtain ⟨o,e',d⟩:=ho p.1 hb
  rw [e] at e';cases e'
  exact ⟨e,f0,f1,f2,d⟩
theorem Inv.unpinned (I:Inv X (pins++pl) σ H s):Inv X pins σ H s:=I.pins_of λp hp=>I.pin p (List.mem_append_right _ (List.mem_append_left _ hp))
theorem zSB (hp:PassesOwn (model X.prog X.w) X.A X.env X.xe) (hc:X.calm=true) (hi:PI X tg iter wi) (hg:PG X tg g) (hb:PSs X body tb) (hs:∀ x,foldedSetIterable iter X.env x=pure x:=by intro _;rfl):PS X (.For tg iter body [] pos) (tFor wi g tb):=by
 intro pins s σ H D I h
 refine wpAny_For (thn (hi pins s σ H _ I h) λv s1 h1=>thn h1 λitv s2 h2=>?_) hs
 obtain ⟨it,fp,tn,J,H2,e,I2,T,st2,f2,W,⟨m0,w0⟩,turn⟩:=h2
 subst e
 -- what stays true of the iterator's objects through the loop
 have stat:∀ {H':Hp},(∀ b∈fp,H' b=none)->∀ b∈fp,FpOk X pins H' b:=λhn b hb=>⟨hn b hb,(f2 b hb).2⟩
 refine codeAny_forLoop_any (λn s'=>∃ i σ' H',Inv X pins σ' H' s'/\tn i s'.heap/\(∀ b∈fp,H' b=none)/\W i n σ' H') ?_ m0 ⟨0,σ,H2,I2,st2,λb hb=>(f2 b hb).1,w0⟩
 rintro n s3 ⟨i,σ3,H3,I3,st3,fr3,w3⟩
 rcases turn i n σ3 H3 w3 with ⟨stop,qn⟩|⟨go,N,hN,step⟩
 ·refine wpAny_passesOwn hp (thn (T.done X rfl rfl rfl hc i pins s3 σ3 H3 X.xe I3 (stat fr3) st3 stop) λr s4 zz=>?_)
  obtain ⟨hr,I4⟩:=zz
  subst hr
  exact wpAny_execs_nil ⟨σ3,H3,I4,qn⟩
 ·refine wpAny_passesOwn hp (thn (T.item X rfl rfl rfl hc i pins s3 σ3 H3 X.xe I3 (stat fr3) st3 go) λr s4 zz=>?_)
  obtain ⟨u,hr,h4⟩:=zz
  subst hr
  refine wpAny_passesOwn hp (thn h4 λ_ s5 zz=>?_)
  obtain ⟨x,H5,I5,r5,y5,st5,fr5⟩:=zz
  have I5':=I5.pinned (stat fr5) (T.obj _ _ st5)
  refine wpAny_passesOwn hp (thn (hg _ s5 σ3 H5 x u _ I5' r5 (step x H5 y5)) λ_ s6 zz=>?_)
  obtain ⟨σ6,H6,I6,q6⟩:=zz
  refine wpAny_passesOwn hp (thn (hb _ s6 σ6 H6 _ I6 q6) λf s7 q7=>?_)
  have again:∀ {σ7:St} {H7:Hp},Inv X (pins++zGv fp s5.heap) σ7 H7 s7->N σ7 H7->∃ m,m<n/\∃ i σ' H',Inv X pins σ' H' s7/\tn i s7.heap/\(∀ b∈fp,H' b=none)/\W i m σ' H':=λ{σ7 H7} I7 n7=>by
   obtain ⟨m',hm,w7⟩:=hN σ7 H7 n7
   refine ⟨m',hm,i+1,σ7,H7,I7.unpinned,T.keep _ _ _ st5 λb hb o e=>(I7.pin (b,o) (List.mem_append_right _ (List.mem_append_right _ (zCB hb e)))).1,λb hb=>?_,w7⟩
   obtain ⟨o,e,d⟩:=T.obj _ _ st5 b hb
   exact (I7.pin (b,o) (List.mem_append_right _ (List.mem_append_right _ (zCB hb e)))).2.1
  cases f with
  |next=>obtain ⟨σ7,H7,I7,n7⟩:=q7;exact again I7 n7
  |cont=>obtain ⟨σ7,H7,I7,n7⟩:=q7;exact again I7 n7
  |brk=>obtain ⟨σ7,H7,I7,q7⟩:=q7;exact ⟨σ7,H7,I7.unpinned,q7⟩
  |ret v=>obtain ⟨x7,σ7,H7,I7,r7,q7⟩:=q7;exact ⟨x7,σ7,H7,I7.unpinned,r7,q7⟩
end
end L2
namespace L2
open PySem PySem.Spec PyProof.Rows
abbrev R2:=V->V->Hp->VK->Prop
def OpR (X:Cx) (f:Value->Value->Sem Value) (r:R2):Prop:=
 ∀ (pins:PNt) (s:Shared) (σ:St) (H:Hp) (x y:V) (v u:Value) (Q:VK),Inv X pins σ H s->y8 x v->y8 y u->r x y H Q ->
  wpAny (model X.prog X.w) X.A (f v u) (EP X pins σ Q) X.xe s
def UnR (X:Cx) (f:Value->Sem Value) (r:V->Hp->VK->Prop):Prop:=
 ∀ (pins:PNt) (s:Shared) (σ:St) (H:Hp) (x:V) (v:Value) (Q:VK),Inv X pins σ H s->y8 x v->r x H Q ->
  wpAny (model X.prog X.w) X.A (f v) (EP X pins σ Q) X.xe s
def zAT (X:Cx) (f:Value) (r:List V->Hp->VK->Prop):Prop:=
 ∀ (pins:PNt) (s:Shared) (σ:St) (H:Hp) (xs:List V) (us:List Value) (Q:VK),Inv X pins σ H s->yI xs us->r xs H Q ->
  wpAny (model X.prog X.w) X.A (call f us) (EP X pins σ Q) X.xe s
def TruR (X:Cx) (r:V->Hp->(Bool->Hp->Prop)->Prop):Prop:=
 ∀ (pins:PNt) (s:Shared) (σ:St) (H:Hp) (x:V) (v:Value) (Q:Bool->Hp->Prop),Inv X pins σ H s->y8 x v->r x H Q ->
  wpAny (model X.prog X.w) X.A (truthy v) (TP X pins σ Q) X.xe s
def tOp (r:R2) (ta tb:TE):TE:=λσ H Q=>ta σ H λx H1=>tb σ H1 λy H2=>r x y H2 Q
def tUn (r:V->Hp->VK->Prop) (ta:TE):TE:=λσ H Q=>ta σ H λx H1=>r x H1 Q
def rI (C:Int->Int->Prop) (g:Int->Int->V):R2:=λx y H Q=>∃ i j,x = .int i/\y = .int j/\C i j/\Q (g i j) H
def rI0 (g:Int->Int->V):R2:=λx y H Q=>∃ i j,x = .int i/\y = .int j/\Q (g i j) H
def rU (g:Int->V):V->Hp->VK->Prop:=λx H Q=>∃ i,x = .int i/\Q (g i) H
section
variable {X:Cx} {a b c:Expr} {ta tb tc:TE} {pos:Pos}
theorem binT (ha:PE X a ta) (hb:PE X b tb) {R:V->V->Hp->Prop} (I:Inv X pins σ H s) (h:ta σ H λx H1=>tb σ H1 λy H2=>R x y H2) {Q:VSt} {f:Value->Value->Sem Value} (hf:∀ v u s2 x y H2,Inv X pins σ H2 s2->y8 x v->y8 y u->R x y H2->wpAny (model X.prog X.w) X.A (f v u) Q X.xe s2) :
  wpAny (model X.prog X.w) X.A (eval a X.env) (λv s₁=>wpAny (model X.prog X.w) X.A (eval b X.env) (λu s₂=>wpAny (model X.prog X.w) X.A (f v u) Q X.xe s₂) X.xe s₁) X.xe s:=by
 refine thn (ha pins s σ H _ I h) λv s1 zz=>?_
 obtain ⟨x,H1,I1,r1,q1⟩:=zz
 refine thn (hb pins s1 σ H1 _ I1 q1) λu s2 zz=>?_
 obtain ⟨y,H2,I2,r2,q2⟩:=zz
 exact hf v u s2 x y H2 I2 r1 r2 q2
theorem zSC (ho:OpR X (binaryOp op) r) (ha:PE X a ta) (hb:PE X b tb):PE X (.BinOp a op b pos) (tOp r ta tb):=by
 intro pins s σ H Q I h
 exact wpAny_BinOp (binT ha hb I h λv u s2 x y H2 I2 rx ry q=>ho pins s2 σ H2 x y v u Q I2 rx ry q)
theorem pe_un {r:V->Hp->VK->Prop} (ho:UnR X (unaryOp op) r) (ha:PE X a ta):PE X (.UnaryOp op a pos) (tUn r ta):=by
 intro pins s σ H Q I h
 exact UnaryOp_ (thn (ha pins s σ H _ I h) λv s1 ⟨x,H1,I1,r1,q1⟩=>ho pins s1 σ H1 x v Q I1 r1 q1)
theorem opI {f:Value->Value->Sem Value} {C:Int->Int->Prop} {g:Int->Int->Int}
  (rule:∀ (i j:Int) (t u:Tok) (s:Shared) (Q:VSt) (E:VSt),C i j->Q (.int (g i j) s.toks) { s with toks:=s.toks+1 }->wpAny (model X.prog X.w) X.A (f (.int i t) (.int j u)) Q E s) :
  OpR X f (rI C λi j=>.int (g i j)):=by
 intro pins s σ H x y v u Q I rx ry h
 obtain ⟨i,j,rfl,rfl,hc,q⟩:=h
 obtain ⟨t,rfl⟩:=rx
 obtain ⟨t',rfl⟩:=ry
 exact rule i j t t' s _ _ hc ⟨.int (g i j),H,I.tok _,⟨_,rfl⟩,q⟩
theorem opI0 {f:Value->Value->Sem Value} {g:Int->Int->Int}
  (rule:∀ (i j:Int) (t u:Tok) (s:Shared) (Q:VSt) (E:VSt),Q (.int (g i j) s.toks) { s with toks:=s.toks+1 }->wpAny (model X.prog X.w) X.A (f (.int i t) (.int j u)) Q E s) :
  OpR X f (rI0 λi j=>.int (g i j)):=by
 intro pins s σ H x y v u Q I rx ry h
 obtain ⟨i,j,rfl,rfl,q⟩:=h
 obtain ⟨t,rfl⟩:=rx
 obtain ⟨t',rfl⟩:=ry
 exact rule i j t t' s _ _ ⟨.int (g i j),H,I.tok _,⟨_,rfl⟩,q⟩
def CDiv (i j:Int):Prop:=0<j/\j<1073741824
def CMul (i j:Int):Prop:=(-(2 ^ 64)<i/\i<2 ^ 64)\/(-(2 ^ 64)<j/\j<2 ^ 64)
theorem CMul.ok (h:CMul i j):IntMulOk i j:=by
 rcases h with ⟨h1,h2⟩|⟨h1,h2⟩
 ·exact .of_left (intBits_le_64 h1 h2)
 ·exact .of_right (intBits_le_64 h1 h2)
theorem zSD:OpR X (binaryOp .Sub) (rI0 λi j=>.int (i-j)):=opI0 λ_ _ _ _ _ _ _ q=>sub_int q
theorem zSE:OpR X (binaryOp .Mult) (rI CMul λi j=>.int (i*j)):=opI λ_ _ _ _ _ _ _ hc q=>mul_int q hc.ok
theorem zPi:OpR X (binaryOp .FloorDiv) (rI CDiv λi j=>.int (i/j)):=opI λi j _ _ _ _ _ hc q=>by
 have h1:(0:Int)<j:=hc.1
 have h2:j<1073741824:=hc.2
 exact floordiv_int (by omega) (by rw [Int.fdiv_eq_ediv_of_nonneg i (by omega)];exact q) (.inl (PyProof.noPylong_small (by omega)))
theorem zSF:OpR X (binaryOp .Mod) (rI (λ_ j=>0<j) λi j=>.int (i%j)):=opI λi j _ _ _ _ _ hc q=>by
 have h1:(0:Int)<j:=hc
 exact mod_int' (by omega) (by rw [Int.fmod_eq_emod_of_nonneg i (by omega)];exact q)
theorem unI {f:Value->Sem Value} {g:Int->Int}
  (rule:∀ (i:Int) (t:Tok) (s:Shared) (Q:VSt) (E:VSt),Q (.int (g i) s.toks) { s with toks:=s.toks+1 }->wpAny (model X.prog X.w) X.A (f (.int i t)) Q E s) :
  UnR X f (rU λi=>.int (g i)):=by
 intro pins s σ H x v Q I rx h
 obtain ⟨i,rfl,q⟩:=h
 obtain ⟨t,rfl⟩:=rx
 exact rule i t s _ _ ⟨.int (g i),H,I.tok _,⟨_,rfl⟩,q⟩
theorem zSG:UnR X (unaryOp .USub) (rU λi=>.int (-i)):=unI λ_ _ _ _ _ q=>neg_int q
end
section
variable {X:Cx} {a b c:Expr} {ta tb tc:TE} {pos:Pos}
theorem zBt (I:Inv X pins σ H s) (q:Q (.bl k) H) (e:k=k'):EP X pins σ Q (.bool k') s:=by
 subst e
 exact ⟨.bl k,H,I,rfl,q⟩
theorem zl (b:Expr) (h:op≠.In:=by decide) (h2:op≠.NotIn:=by decide):behindInMarks op b=false:=by
 have e1:(op == CmpOp.In)=false:=by cases op<;>first|rfl|exact absurd rfl h
 have e2:(op == CmpOp.NotIn)=false:=by cases op<;>first|rfl|exact absurd rfl h2
 cases b<;>simp [behindInMarks,e1,e2]
theorem zKd (ho:OpR X (compareOp op) r) (ha:PE X a ta) (hb:PE X b tb) (hm:behindInMarks op b=false):PE X (.Compare a [op] [b] pos) (tOp r ta tb):=by
 intro pins s σ H Q I h
 exact wpAny_Compare1 (binT ha hb I h λv u s2 x y H2 I2 rx ry q=>ho pins s2 σ H2 x y v u Q I2 rx ry q) hm
def tTest (t:TE):TT:=λσ H Q=>t σ H λx H'=>∃ k,x = .bl k/\Q k H'
theorem zHx (ho:OpR X (compareOp op) r) (ha:PE X a ta) (hb:PE X b tb) (hm:behindInMarks op b=false):PT X (.Compare a [op] [b] pos) (tTest (tOp r ta tb)):=by
 intro pins s σ H Q I h
 refine wpAny_isTrue_Compare1 (thn (ha pins s σ H _ I h) λv s1 ⟨x,H1,I1,r1,q1⟩=>thn (hb pins s1 σ H1 _ I1 q1) λu s2 ⟨y,H2,I2,r2,q2⟩=>
  thn (ho pins s2 σ H2 x y v u _ I2 r1 r2 q2) λc s3 ⟨z,H3,I3,r3,k,e,q3⟩=>?_) hm
 subst e
 cases r3
 exact wpAny_truthy_bool ⟨H3,I3,q3⟩
def TruV (K:Fg) (x:V) (H:Hp) (k:Bool):Prop:=
 match x with
 |.non=>k=false
 |.bl b=>k=b
 |.int i=>k=(i != 0)
 |.str y=>y.length<=sizeLine/\k=((y.length:Int) != 0)
 |.byt y=>y.size<=sizeLine/\k=((y.size:Int) != 0)
 |.ref p=>(∃ xs,SqL K H p xs/\k = !xs.isEmpty)\/(∃ xs,SqT K H p xs/\k = !xs.isEmpty)\/∃ kvs,H p=some (.dK kvs)/\k = !kvs.isEmpty
 |_=>False
theorem zJk {κ:Type} {kvs:List (κ×V)} {vs:List (κ×Value)} (r:KV kvs vs):(!vs.isEmpty) = !kvs.isEmpty:=by
 cases r<;>rfl
theorem zFd {xs:List V} {its:List Value} (r:yI xs its):(!its.toArray.isEmpty) = !xs.isEmpty:=by
 cases r<;>simp
theorem zEY:(sizeLine:Nat)<2 ^ 63:=by rw [sizeLine_eq];decide
theorem zSH:TruR X (λx H Q=>∃ k,TruV X.K x H k/\Q k H):=by
 intro pins s σ H x v Q I rx h
 obtain ⟨k,e,q⟩:=h
 have hl:=zEY
 have hs:sizeLine=16777216:=sizeLine_eq
 cases x with
 |non=>
  cases rx
  have e':k=false:=e
  subst e'
  exact truthy_none ⟨H,I,q⟩
 |bl b=>
  cases rx
  have e':k=b:=e
  subst e'
  exact wpAny_truthy_bool ⟨H,I,q⟩
 |int i=>
  obtain ⟨t,rfl⟩:=rx
  have e':k=(i != 0):=e
  subst e'
  exact PySem.P.truthy_int ⟨H,I,q⟩
 |str y=>
  obtain ⟨t,rfl⟩:=rx
  obtain ⟨hy,e'⟩:y.length<=sizeLine/\k=((y.length:Int) != 0):=e
  subst e'
  exact PySem.P.truthy_str (by omega) ⟨H,I.tok _,q⟩
 |byt y=>
  obtain ⟨t,rfl⟩:=rx
  obtain ⟨hy,e'⟩:y.size<=sizeLine/\k=((y.size:Int) != 0):=e
  subst e'
  exact PySem.W.truthy_bytes (by omega) ⟨H,I.tok _,q⟩
 |ref p=>
  cases rx
  have e':(∃ xs,SqL X.K H p xs/\k = !xs.isEmpty)\/(∃ xs,SqT X.K H p xs/\k = !xs.isEmpty)\/∃ kvs,H p=some (.dK kvs)/\k = !kvs.isEmpty:=e
  rcases e' with ⟨xs,hx,e'⟩|⟨xs,hx,e'⟩|⟨kvs,hx,e'⟩
  ·subst e'
   obtain ⟨its,r,pl,hz⟩:=I.list hx
   have hlen:=r.length
   exact wpAny_truthy_list pl.isList (by simp only [List.size_toArray];omega) ⟨H,I.tok _,by rw [zFd r];exact q⟩
  ·subst e'
   obtain ⟨its,r,pl,hz⟩:=I.tuple hx
   have hlen:=r.length
   exact truthy_tuple pl (by simp only [List.size_toArray];omega) ⟨H,I.tok _,by rw [zFd r];exact q⟩
  ·subst e'
   obtain ⟨hz,hS,vs,r,m⟩:kvs.length<=sizeLine/\(p == sysModules)=false/\∃ vs,KV kvs vs/\s.heap.DictOf (yP X.prog X.w) p vs:=I.hok p _ hx
   have hlen:kvs.length=vs.length:=Paired.length r
   exact wpAny_truthy_dict hS m (by omega) ⟨H,I.tok _,by rw [zJk r];exact q⟩
 |_=>exact (show False from e).elim
theorem zNB (ha:PE X a ta) (he:∀ whole,isTrue a X.env whole=(do let v <- whole;standAt a.pos;holding [v] (truthy v))) :
  PT X a (λσ H Q=>ta σ H λx H'=>∃ k,TruV X.K x H' k/\Q k H'):=by
 intro pins s σ H Q I h
 exact isTrue_plain (thn (ha pins s σ H _ I h) λv s1 ⟨x,H1,I1,r1,q1⟩=>zSH pins s1 σ H1 x v Q I1 r1 q1) (he _)
theorem zJl:OpR X (binaryOp .Add) (λx y H Q=>∃ i j,x = .str i/\y = .str j/\i.length+j.length<=sizeLine/\Q (.str (i++j)) H):=by
 intro pins s σ H x y v u Q I rx ry h
 obtain ⟨i,j,rfl,rfl,hz,q⟩:=h
 obtain ⟨t,rfl⟩:=rx
 obtain ⟨t',rfl⟩:=ry
 exact add_str (λt' tk=>⟨.str (i++j),H,I.tok _,⟨_,rfl⟩,q⟩) hz
theorem zCs (r:yI [x] us):∃ u,us = [u]/\y8 x u:=by
 cases r with
 |cons r1 r2=>cases r2;exact ⟨_,rfl,r1⟩
theorem zSI (r:yI [x,y] us):∃ u w',us = [u,w']/\y8 x u/\y8 y w':=by
 cases r with
 |cons r1 r2=>
  cases r2 with
  |cons r3 r4=>cases r4;exact ⟨_,_,rfl,r1,r3⟩
theorem zGw:zAT X (.type "int") (λxs H Q=>(∃ i,xs = [.int i]/\Q (.int i) H)\/∃ k,xs = [.bl k]/\Q (.int (if k then 1 else 0)) H):=by
 intro pins s σ H xs us Q I r h
 rcases h with ⟨i,rfl,q⟩|⟨k,rfl,q⟩
 ·obtain ⟨u,rfl,t,rfl⟩:=zCs r
  exact call_int_int ⟨.int i,H,I,⟨_,rfl⟩,q⟩
 ·obtain ⟨u,rfl,r1⟩:=zCs r
  cases r1
  exact call_int_bool ⟨.int (if k then 1 else 0),H,I.tok _,⟨_,rfl⟩,q⟩
end
end L2
namespace L2
open PySem PySem.Spec PyProof.Rows
section
variable {prog:Program} {w:World} {A:Around} {E:VSt} {s:Shared} {K:Fg} {x dx C f:Addr} {mA:MGt} {name:Str} {v:Value}
end
theorem zHm.some_of (r:zHm (some v) o):∃ u,o=some u/\y8 v u:=by
 cases o with
 |none=>exact (show False from r).elim
 |some u=>exact ⟨u,rfl,r⟩
theorem zHm.none_of (r:zHm none o):o=none:=by
 cases o with
 |none=>rfl
 |some u=>exact (show False from r).elim
section
variable {P:Program} {w:World} {H H':Hp} {h h':Heap} {a C dx:Addr} {fs fs':List (Str×V)}
end
section
variable {X:Cx} {pins:PNt} {σ:St} {H:Hp} {s:Shared} {a C dx:Addr} {fs:List (Str×V)} {f:Str} {v:V} {A:Around} {E:VSt}
end
section
variable {X:Cx} {o e value:Expr} {f:Str} {pos pos' tpos:Pos} {ta tv:TE}
end
section
variable {X:Cx} {pins:PNt} {σ:St} {H:Hp} {s:Shared} {A:Around} {E:VSt} {Q:VSt} {c:Value} {b:Bool}
end
end L2
namespace L2
open PySem PySem.Spec PyProof.Rows
structure zBn (k:Nat) (A:Around):Prop where
 hd:A.handled=none
 dp:A.depth+3*k+5<recursionLimit
 un:A.units+16*k+200<cLine
theorem zBn.mono (r:zBn k A) (h:j<=k):zBn j A:=⟨r.hd,by have:=r.dp;omega,by have:=r.un;omega⟩
theorem zBn.deeper {A:Around} (r:zBn (k+1) A) (env:Env):zBn k (A.deeper env):=
 ⟨r.hd,by have:=r.dp;show A.depth+1+3*k+5<_;omega,by have:=r.un;show A.units+3+16*k+200<_;omega⟩
theorem zBn.depth {A:Around} (r:zBn k A):A.depth<recursionLimit:=by have:=r.dp;omega
theorem zBn.units {A:Around} (r:zBn k A):A.units+64<cLine:=by have:=r.un;omega
def tNil:TA:=λ_ H Q=>Q [] H
def zPj (ta:TE) (tr:TA):TA:=λσ H Q=>ta σ H λx H1=>tr σ H1 λxs H2=>Q (x::xs) H2
section
variable {X:Cx} {e:Expr} {es:List Expr} {te:TE} {t:TA} {pos:Pos}
theorem yp:PA X [] tNil:=λ_ _ _ _ H Q I h=>Calls.spliced_nil ⟨[],H,I,.nil,h⟩
theorem zt (ha:PE X e te) (hr:PA X es t) (hs:starEach (e::es) X.env=(false,eval e X.env)::starEach es X.env:=by rfl):PA X (e::es) (zPj te t):=by
 intro pos pins s σ H Q I h
 rw [hs]
 show wpAny _ _ (spliced ((false,eval e X.env)::backTo pos (starEach es X.env))) _ _ s
 refine Calls.spliced_cons (thn (ha pins s σ H _ I h) λu s1 zz=>?_)
 obtain ⟨x,H1,I1,r1,q1⟩:=zz
 exact thn (hr pos pins s1 σ H1 _ I1 q1) λus s2 ⟨xs,H2,I2,r2,q2⟩=>⟨x::xs,H2,I2,.cons r1 r2,q2⟩
def tTup (t:TA):TE:=λσ H Q=>t σ H λxs H1=>xs.length<=sizeLine/\∀ p,H1 p=none->Q (.ref p) (upd H1 p (.tup xs))
def tLst (t:TA):TE:=λσ H Q=>t σ H λxs H1=>xs.length<=sizeLine/\∀ p,H1 p=none->Q (.ref p) (upd H1 p (.lst xs))
theorem zSJ {x1} (h:PA X es t):PE X (.Tuple es x1 pos) (tTup t):=by
 intro pins s σ H Q I hq
 refine wpAny_Tuple_spliced (thn (h pos pins s σ H _ I hq) λus s1 ⟨xs,H1,I1,r,z,q⟩=>⟨by rw [<- r.length];exact z,?_⟩)
 have hf:H1 s1.heap.objs.size=none:=I1.hok.fresh (Nat.le_refl _)
 refine ⟨.ref s1.heap.objs.size,upd H1 s1.heap.objs.size (.tup xs),I1.laid (t':=s1.toks) (λb u e=>Heap.get?_push_of_some _ e) (Nat.le_refl _) ?_,rfl,q _ hf⟩
 exact ⟨z,us,r,⟨_,Heap.get?_push_size _ rfl,rfl,_,rfl,rfl⟩⟩
theorem zOm (h:PA X es t):PE X (.List es pos) (tLst t):=by
 intro pins s σ H Q I hq
 refine wpAny_List_spliced (thn (h pos pins s σ H _ I hq) λus s1 ⟨xs,H1,I1,r,z,q⟩=>⟨by rw [<- r.length];exact z,?_⟩)
 have hf:H1 s1.heap.objs.size=none:=I1.hok.fresh (Nat.le_refl _)
 refine ⟨.ref s1.heap.objs.size,upd H1 s1.heap.objs.size (.lst xs),I1.laid (t':=s1.toks) (λb u e=>Heap.get?_push_of_some _ e) (Nat.le_refl _) ?_,rfl,q _ hf⟩
 exact ⟨z,us,0,r,Heap.get?_push_size _ rfl⟩
end
abbrev Sp:=List V->Hp->VK->XK->Prop
abbrev CXT:=List Env->Hp->Shared->XK->Value->Shared->Prop
structure Env0 (P:Program) (w:World) (K:Fg) (mg:MGt) (base:Heap) (A:Around) (outer:List Env) (s:Shared) (H:Hp):Prop where
 frames:A.frames=some outer
 mod:Mod K mg base
 bs:∀ b o,base.get? b=some o->s.heap.get? b=some o/\H b=none
 bsz:base.objs.size<=s.heap.objs.size
 funs:s.heap.FunFrames base outer
 frf:∀ b∈frs outer,H b=none
 hok:HOk P w H s.heap
 bare:AllBare s.gens
def CE (outer:List Env) (P:Program) (w:World) (H:Hp) (s:Shared) (Q:VK) (u:Value) (s':Shared):Prop:=
 ∃ v H',s'.os=s.os/\AllBare s'.gens/\Un (frs outer) [] H H' s.heap s'.heap/\HOk P w H' s'.heap/\y8 v u/\Q v H'
def CR (CX:CXT) (outer:List Env) (P:Program) (w:World) (H:Hp) (s:Shared) (Q:VK) (E:XK) (r:Result) (s':Shared):Prop:=
 match r with
 |.ok (.ret u)=>CE outer P w H s Q u s'
 |.ok _=>False
 |.error e=>CX outer H s E e s'
structure zF8 (P:Program) (w:World) (K:Fg) (mg:MGt) (base:Heap) (CX:CXT) (k:Nat) (f:Addr) (fd:FuncData) (ps:List Str) (sp:Sp):Prop where
 len:∀ vs H Q E,sp vs H Q E->vs.length=ps.length
 run:∀ (A:Around) (outer:List Env) (s:Shared) (H:Hp) (args:Args) (us:List Value) (vs:List V) (Q:VK) (E:XK),zBn k A->Env0 P w K mg base A outer s H->BindsTo s fd args (ps.zip us)->yI vs us->sp vs H Q E ->
  codeAny (model P w) A (.call (.ref f) args) (CR CX outer P w H s Q E) s
section
variable {X:Cx} {pins:PNt} {σ:St} {H:Hp} {s s':Shared}
theorem Inv.env0 (I:Inv X pins σ H s):Env0 X.prog X.w X.K X.mg X.base X.A X.stack s H:=
 ⟨I.ok.frames,I.ok.mod,I.bs,Nat.le_trans I.ok.bsz I.sz,I.stack,I.stkFree,I.hok,I.bare⟩
theorem Inv.after (I:Inv X pins σ H s) (h:CE X.stack X.prog X.w H s Q u s'):EP X pins σ Q u s':=by
 obtain ⟨v,H',os,bare,un,hok,r,q⟩:=h
 obtain ⟨hh,g,d,t,os'⟩:=s'
 obtain rfl:os'=s.os:=os
 exact ⟨v,H',I.call (h':=hh) (g':=g) (d':=d) (t':=t) (ch:=[]) un hok bare (λb z=>absurd z (by simp)),r,q⟩
end
def tCall (sp:Sp) (dvs:List V) (E:XK) (t:TA):TE:=λσ H Q=>t σ H λvs H1=>sp (vs++dvs) H1 Q E
def zD8 (K:Fg) (fd:FuncData) (ps:List Str) (ds:List Value):Prop:=
 ∀ (s:Shared) (us:List Value),K.In s.heap->(us++ds).length=ps.length->BindsTo s fd ⟨us,[]⟩ (ps.zip (us++ds))
theorem zD8.all {K:Fg} {fd:FuncData} {ps:List Str} (h:∀ us:List Value,us.length=ps.length->bindArgs fd ⟨us,[]⟩=pure (ps.zip us)):zD8 K fd ps []:=λs us _ hl=>by
 rw [List.append_nil] at hl ⊢
 exact .of_eq (h us hl)
def zDr (CX:CXT) (X:Cx) (E:XK):Prop:=∀ (pins:PNt) (σ:St) (H:Hp) (s:Shared) (e:Value) (s':Shared),Inv X pins σ H s->CX X.stack H s E e s'->X.xe e s'
section
variable {X:Cx} {CX:CXT} {k:Nat} {f C:Addr} {fd:FuncData} {ps:List Str} {sp:Sp} {dvs:List V} {ds:List Value} {E:XK} {x m:Str} {p pos apos:Pos} {e o:Expr} {es:List Expr} {ta:TE} {t:TA}
theorem zSK (F:zF8 X.prog X.w X.K X.mg X.base CX k f fd ps sp) (hr:zBn k X.A) (hb:zD8 X.K fd ps ds) (hd:yI dvs ds) (hx:zDr CX X E) (I:Inv X pins σ H s) (r:yI vs us) (h:sp (vs++dvs) H Q E):wpAny (model X.prog X.w) X.A (call (.ref f) us) (EP X pins σ Q) X.xe s:=by
 have r2:yI (vs++dvs) (us++ds):=r.append hd
 have hl:(us++ds).length=ps.length:=by rw [<- r2.length];exact F.len _ _ _ _ h
 refine wpAny_call (codeAny_mono (F.run X.A X.stack s H ⟨us,[]⟩ (us++ds) (vs++dvs) Q E hr I.env0 (hb s us I.kIn hl) r2 h) λr s' hq=>?_)
 cases r with
 |error e=>exact hx pins σ H s e s' I hq
 |ok fl=>
  cases fl with
  |ret u=>exact I.after hq
  |next=>exact False.elim hq
  |brk=>exact False.elim hq
  |cont=>exact False.elim hq
theorem zEZ (F:zF8 X.prog X.w X.K X.mg X.base CX k f fd ps sp) (hr:zBn k X.A) (hg:Gl X x) (hm:X.mg x=some (.ref f)) (hk:PySem.W.keepIn X.K (.ref f)=true) (hb:zD8 X.K fd ps ds) (hd:yI dvs ds) (hx:zDr CX X E)
  (ha:PA X (e::es) t) (hdb:(x == ("__debug__" : Str))=false:=by decide) (he:starEach (e::es) X.env=(false,eval e X.env)::starEach es X.env:=by rfl) (hpl:(backTo pos (starEach es X.env)).any (·.1)=false:=by rfl) :
  PE X (.Call (.Name x p) (e::es) [] pos) (tCall sp dvs E t):=by
 intro pins s σ H Q I h
 refine wpAny_Call_Name_kw (zDS I hg hm ?_ hdb)
 refine PySem.W.callWith_K (h₀:=X.base) I.ok.mod.kin hk (thn (ha pos pins s σ H _ I h) λus s1 ⟨vs,H1,I1,r,q⟩=>⟨I1.kIn,?_⟩) he hpl
 exact zSK F hr hb hd hx I1 r q
end
section
variable {X:Cx} {CX:CXT} {k:Nat} {f C:Addr} {fd:FuncData} {ps ks:List Str} {sp:Sp} {E:XK} {x m:Str} {p pos apos kpos:Pos} {e o:Expr} {es:List Expr} {kws:List Keyword} {te ta:TE} {t tk:TA} {nm:Option Str}
variable {g:List Value->List Value->List Value} {gV:List V->List V->List V}
end
structure zZ (N P:List Str) (sc:Scope):Prop where
 kind:sc.kind = .function
 co:sc.isCoroutine=false
 gen:sc.isGenerator=false
 nd:N.Nodup
 pre:N.take P.length=P
 par:∀ x∈P,sc.names.lookup x=some .local\/sc.names.lookup x=some .cell
 nofree:∀ y∈sc.names,y.2≠.free
theorem zGx {kindOf:Str->Option NameKind}:∀ {binds:List (Str×Value)} {m:MGt},(∀ v,(x,v)∉binds)->bindL kindOf binds m x=m x
 | [],_,_=>rfl
 |(n,v)::r,m,h=>by
  unfold bindL
  rw [zGx λw hw=>h w (List.mem_cons_of_mem _ hw)]
  split
  ·have:x≠n:=by rintro rfl;exact h v List.mem_cons_self
   simp [this]
  ·rfl
theorem zGy {kindOf:Str->Option NameKind}:∀ {binds:List (Str×Value)} {m:MGt},(∀ v,(x,v)∉binds)->bindC kindOf binds m x=m x
 | [],_,_=>rfl
 |(n,v)::r,m,h=>by
  unfold bindC
  rw [zGy λw hw=>h w (List.mem_cons_of_mem _ hw)]
  split
  ·rfl
  ·have:x≠n:=by rintro rfl;exact h v List.mem_cons_self
   simp [this]
theorem zGz {kindOf:Str->Option NameKind}:∀ {P:List Str} {vs:List Value} {i:Nat} {m:MGt},P.Nodup->P[i]?=some x->vs[i]?=some v->kindOf x=some .local ->
  bindL kindOf (P.zip vs) m x=some v
 | [],_,_,_,_,h,_,_=>by simp at h
 |_::_,[],_,_,_,_,h,_=>by simp at h
 |p::P,w::vs,0,m,nd,h1,h2,hk=>by
  simp at h1 h2;subst h1;subst h2
  show bindL kindOf ((p,w)::P.zip vs) m p=_
  unfold bindL
  rw [zGx λv hv=>(List.nodup_cons.mp nd).1 (List.of_mem_zip hv).1,if_pos hk]
  simp
 |p::P,w::vs,i+1,m,nd,h1,h2,hk=>by
  show bindL kindOf ((p,w)::P.zip vs) m x=_
  unfold bindL
  exact zGz (i:=i) (List.nodup_cons.mp nd).2 (by simpa using h1) (by simpa using h2) hk
theorem zG0 {kindOf:Str->Option NameKind}:∀ {P:List Str} {vs:List Value} {i:Nat} {m:MGt},P.Nodup->P[i]?=some x->vs[i]?=some v->kindOf x≠some .local ->
  bindC kindOf (P.zip vs) m x=some v
 | [],_,_,_,_,h,_,_=>by simp at h
 |_::_,[],_,_,_,_,h,_=>by simp at h
 |p::P,w::vs,0,m,nd,h1,h2,hk=>by
  simp at h1 h2;subst h1;subst h2
  show bindC kindOf ((p,w)::P.zip vs) m p=_
  unfold bindC
  rw [zGy λv hv=>(List.nodup_cons.mp nd).1 (List.of_mem_zip hv).1,if_neg hk]
  simp
 |p::P,w::vs,i+1,m,nd,h1,h2,hk=>by
  show bindC kindOf ((p,w)::P.zip vs) m x=_
  unfold bindC
  exact zG0 (i:=i) (List.nodup_cons.mp nd).2 (by simpa using h1) (by simpa using h2) hk
def zCf (N:List Str) (vs:List V):St:=vs.map some++List.replicate (N.length-vs.length) none
def zHy (CX:CXT) (P:Program) (w:World) (K:Fg) (mg:MGt) (base:Heap) (N:List Str) (qual:Str) (scope:Scope) (f:Addr) (cd:Value) (A:Around) (outer:List Env) (s:Shared) (H:Hp) (E:XK):Cx where
 prog:=P
 w:=w
 K:=K
 mg:=mg
 base:=base
 A:=A.deeper (envOfC qual scope s.heap.objs.size f cd)
 N:=N
 s₀:=s
 H₀:=H
 env:=envOfC qual scope s.heap.objs.size f cd
 outer:=outer
 stack:=envOfC qual scope s.heap.objs.size f cd::outer
 ex:=[]
 calm:=true
 fn:=λ_=>true
 pn:=[]
 xe:=λe s'=>wpAny (model P w) (A.deeper (envOfC qual scope s.heap.objs.size f cd)) (leaving (envOfC qual scope s.heap.objs.size f cd) e) (λ_ s''=>CX outer H s E e s'') (λe' s''=>CX outer H s E e' s'') s'
theorem zIr {sc:Scope} (h:sc.names.lookup x=some .cell):∃ c,(cellsFrom n sc.names []).lookup x=some c:=by
 have q:=PySem.W.cellsFrom_some sc.names n [] (.inl h)
 exact Option.isSome_iff_exists.mp q
theorem zKe {CX:CXT} {P:Program} {w:World} {K:Fg} {mg:MGt} {base:Heap} {N ps:List Str} {qual:Str} {scope:Scope} {f:Addr} {cd:Value} {A:Around} {outer:List Env} {s s1:Shared} {H:Hp} {E:XK} {us:List Value} {vs:List V}
  (S:zZ N ps scope) (hd:A.handled=none) (e0:Env0 P w K mg base A outer s H) (hl:vs.length=ps.length) (r:yI vs us)
  (x:InCallC s s.heap.objs.size (bindL (envOfC qual scope s.heap.objs.size f cd).kindOf (ps.zip us) λ_=>none) (cellsFrom (s.heap.objs.size+1) scope.names []) (bindC (envOfC qual scope s.heap.objs.size f cd).kindOf (ps.zip us) λ_=>none) s1) :
  Inv (zHy CX P w K mg base N qual scope f cd A outer s H E) [] (zCf N vs) H s1:=by
 have hpl:ps.length<=N.length:=by have:=congrArg List.length S.pre;rw [List.length_take] at this;omega
 obtain ⟨h1,tk,rfl,hk⟩:=x.done
 have noA:∀ b:Addr,b∉(zHy CX P w K mg base N qual scope f cd A outer s H E).ex:=λb z=>absurd (show b∈([]:List Addr) from z) (by simp)
 refine ⟨⟨e0.mod,S.kind,rfl,rfl,Nat.le_refl _,λy z c h1 h2=>?_,λy hy=>?_,λy c _ h=>?_,λ_=>hd,Around.frames_deeper e0.frames,.inr ⟨rfl,rfl⟩,λb z=>absurd z (noA b),e0.bs,e0.bsz,λb _ _=>noA b,λb z=>absurd z (noA b),e0.funs,e0.frf⟩,
  rfl,e0.bare,Un.kept hk,⟨_,x.toInCall.ns,λi y v h1 h2 h3=>?_⟩,λy c h=>⟨_,x.cell y c h⟩,e0.hok.fresh (Nat.le_refl _),λy c h=>?_,λp hp=>absurd (show p∈([]:PNt) from hp) (by simp),e0.hok.kept hk,?_⟩
 ·exact name_of_addr x.apart (PySem.mem_of_lookup h1) (PySem.mem_of_lookup h2)
 ·have hy:scope.names.lookup y=some .cell\/scope.names.lookup y=some .free:=hy
  rcases hy with hy|hy
  ·exact zIr hy
  ·exact absurd rfl (S.nofree _ (PySem.mem_of_lookup hy))
 ·exact Nat.le_of_lt (x.above y c (PySem.mem_of_lookup h))
 ·have hi:i<vs.length:=by
   unfold zCf at h2
   by_cases hi:i<vs.length
   ·exact hi
   ·rw [List.getElem?_append_right (by simpa using hi)] at h2
    rw [List.getElem?_replicate] at h2
    split at h2<;>cases h2
  have ha:vs[i]?=some v:=by
   unfold zCf at h2
   rw [List.getElem?_append_left (by simpa using hi),List.getElem?_map] at h2
   cases e:vs[i]? with
   |none=>rw [e] at h2;cases h2
   |some a=>rw [e] at h2;cases h2;rfl
  obtain ⟨u,hu,rv⟩:=r.get ha
  have hp:ps[i]?=some y:=by
   rw [<- S.pre,List.getElem?_take_of_lt (by omega)];exact h1
  have ndP:ps.Nodup:=by rw [<- S.pre];exact S.nd.sublist (List.take_sublist _ _)
  refine ⟨u,rv,?_⟩
  rcases S.par y (List.mem_of_getElem? hp) with k|k
  ·exact .inl ⟨k,zGz ndP hp hu k⟩
  ·obtain ⟨c,e⟩:=zIr (n:=s.heap.objs.size+1) k
   refine .inr ⟨.inl k,c,e,?_⟩
   have q:=x.cell y c e
   rw [zG0 ndP hp hu (by show scope.names.lookup y≠_;rw [k];decide)] at q
   exact q
 ·exact e0.hok.fresh (Nat.le_of_lt (x.above y c (PySem.mem_of_lookup h)))
 ·unfold zCf
  show _=N.length
  rw [List.length_append,List.length_map,List.length_replicate]
  omega
theorem zPk {K:Fg} {mg:MGt} {k:Nat} {f:Addr} {name qual:Str} {body:List Stmt} {dV kV doc pm cdv ct oc:Value} {an od:Option Addr} {osl:Array (Option Value)} {N ps:List Str} (lk:K.lookup f=some ⟨oc,od,.func (PySem.W.fnOf name qual params body scope dV kV doc pm an cdv ct),osl⟩) (hcd:PySem.W.codeIn K cdv qual=true) (S:zZ N ps scope) (len:∀ vs H Q E,sp vs H Q E->vs.length=ps.length) (hbody:∀ (A:Around) (outer:List Env) (s:Shared) (H:Hp) (vs:List V) (Q:VK) (E:XK),zBn k (A.deeper (envOfC qual scope s.heap.objs.size f cdv))->sp vs H Q E ->
   ∃ t,PSs (zHy CX P w K mg base N qual scope f cdv A outer s H E) body t/\t { nx:=λ_ H'=>Q .non H',rt:=Q } (zCf N vs) H) :
  zF8 P w K mg base CX (k+1) f (PySem.W.fnOf name qual params body scope dV kV doc pm an cdv ct) ps sp:=by
 refine ⟨len,λA outer s H args us vs Q E hr e0 hb r hsp=>?_⟩
 have hl:=len _ _ _ _ hsp
 have KX:K.In s.heap:=e0.mod.kin.keeps λb o e=>(e0.bs b o e).1
 have lim:s.heap.NoLimit:=e0.mod.nolimit.keeps λb o e=>(e0.bs b o e).1
 have hkind:∀ y∈ps.zip us,scope.names.lookup y.1=some .local\/(scope.names.lookup y.1=some .cell/\((cellsFrom (s.heap.objs.size+1) scope.names []).lookup y.1).isSome=true):=by
  rintro ⟨n,v⟩ hy
  rcases S.par n (List.of_mem_zip hy).1 with q|q
  ·exact .inl q
  ·exact .inr ⟨q,PySem.W.cellsFrom_some _ _ _ (.inl q)⟩
 refine codeAny_call_function hr.depth (KX _ _ lk) rfl S.co S.gen rfl (PySem.W.codeRec_of KX hcd) (hb _ _ _ _ ?_)
 refine wpAny_newFunctionEnv_cells S.kind hkind λenv he s1 x=>?_
 subst he
 refine ⟨lim.keeps x.toInCall.keep,codeAny_func ?_⟩
 obtain ⟨t,ht,hq⟩:=hbody A outer s H vs Q E (hr.deeper _) hsp
 have I:Inv (zHy CX P w K mg base N qual scope f cdv A outer s H E) [] (zCf N vs) H s1:=zKe S hr.hd e0 hl r x
 refine wpAny_mono (ht [] s1 (zCf N vs) H _ I hq) (λfl s' hs=>?_) λe s' hs=>hs
 have fin:∀ {σ':St} {H':Hp} {v:V} {u:Value},Inv (zHy CX P w K mg base N qual scope f cdv A outer s H E) [] σ' H' s'->y8 v u->Q v H'->CE outer P w H s Q u s':=
  λ{σ' H' v u} J rv q=>⟨v,H',J.os,J.bare,J.base,J.hok,rv,q⟩
 cases fl with
 |ret u=>
  obtain ⟨v,σ',H',J,rv,q⟩:=hs
  exact fin J rv q
 |next=>
  obtain ⟨σ',H',J,q⟩:=hs
  exact fin (v:=V.non) (u:=Value.none) J rfl q
 |brk=>
  obtain ⟨_,_,_,q⟩:=hs
  exact False.elim q
 |cont=>
  obtain ⟨_,_,_,q⟩:=hs
  exact False.elim q
end L2
namespace L2
open PySem PySem.Spec PyProof.Rows
section
variable {X:Cx} {x:Str} {p pos:Pos} {e:Expr} {es:List Expr} {t:TA} {id T:String} {r:List V->Hp->VK->Prop}
def tCB (r:List V->Hp->VK->Prop) (t:TA):TE:=λσ H Q=>t σ H λvs H1=>r vs H1 Q
theorem zAJ (hc:zAT X (.builtin id) r) (hg:Gl X x) (hm:X.mg x=none) (hv:bootBuiltins x=some (.builtin id)) (ha:PA X (e::es) t) (hn:x ≠ "__name__":=by decide) (hdb:(x == ("__debug__" : Str))=false:=by decide)
  (he:starEach (e::es) X.env=(false,eval e X.env)::starEach es X.env:=by rfl) (hpl:(backTo pos (starEach es X.env)).any (·.1)=false:=by rfl):PE X (.Call (.Name x p) (e::es) [] pos) (tCB r t):=by
 intro pins s σ H Q I h
 refine wpAny_Call_Name_kw (zFc I hg hm hv ?_ hn hdb)
 exact PyProof.Rows.callWith_builtin1 (thn (ha pos pins s σ H _ I h) λus s1 ⟨vs,H1,I1,r1,q1⟩=>hc pins s1 σ H1 vs us Q I1 r1 q1) he hpl
theorem zEa (hc:zAT X (.type T) r) (hg:Gl X x) (hm:X.mg x=none) (hv:bootBuiltins x=some (.type T)) (ha:PA X (e::es) t) (hn:x ≠ "__name__":=by decide) (hdb:(x == ("__debug__" : Str))=false:=by decide)
  (he:starEach (e::es) X.env=(false,eval e X.env)::starEach es X.env:=by rfl) (hpl:(backTo pos (starEach es X.env)).any (·.1)=false:=by rfl):PE X (.Call (.Name x p) (e::es) [] pos) (tCB r t):=by
 intro pins s σ H Q I h
 refine wpAny_Call_Name_kw (zFc I hg hm hv ?_ hn hdb)
 exact PyProof.Rows.callWith_type1 (thn (ha pos pins s σ H _ I h) λus s1 ⟨vs,H1,I1,r1,q1⟩=>hc pins s1 σ H1 vs us Q I1 r1 q1) he hpl
end
end L2
namespace HT
open PySem PyProof.Rows
section
open PySem.SeqAt
open PySem.AutoSeq1 (wpAny_loadPart')
open PySem.MeetsSeq PySem.MeetsSeq2 PySem.MeetsSeq3
end
section
variable {prog:Program} {w:World} {A:Around} {E:VSt} {s:Shared}
theorem zPl {vs ws:List Value} {Q:VSt} (ht:IsTup s.heap t vs.toArray) (hb:IsTup s.heap b ws.toArray) (hv:vs≠[]) (h1:ws = []->Q (.ref t) s) (h2:ws≠[]->Q (.ref s.heap.objs.size) { s with heap:=s.heap.push { cls:=.type "tuple",data:=.seq (vs++ws).toArray } }) (hsz:vs.length+ws.length<=sizeLine):wpAny (model prog w) A (binaryOp .Add (.ref t) (.ref b)) Q E s:=by
 obtain ⟨⟨cls,dd,data,sl⟩,ho,hc,n,hd⟩:=id ht
 obtain ⟨⟨cls2,dd2,data2,sl2⟩,ho2,hc2,n2,hd2⟩:=id hb
 simp only at hc hd hc2 hd2
 subst hc hd hc2 hd2
 have e:vs.toArray++ws.toArray=(vs++ws).toArray:=by simp
 by_cases hw:ws = []
 ·exact concat_meets ⟨_,ho,rfl⟩ ⟨_,ho2,rfl⟩ noFill_tuple_add seq_tuple_add PySem.F.slot_tuple_add PySem.F.entry_tuple_add (PySem.F.args_tuple_add_2 _ _)
   (tuple_addW1 t b vs.toArray ws.toArray n n2 dd dd2 sl sl2 (by simpa using hv) (by simp [hw])) ⟨ho,ho2,h1 hw⟩
 ·refine concat_meets ⟨_,ho,rfl⟩ ⟨_,ho2,rfl⟩ noFill_tuple_add seq_tuple_add PySem.F.slot_tuple_add PySem.F.entry_tuple_add (PySem.F.args_tuple_add_2 _ _)
   (tuple_addW2 t b vs.toArray ws.toArray n n2 dd dd2 sl sl2 (by simpa using hv) (by simpa using hw) (by rw [List.size_toArray,List.size_toArray];exact hsz)) ⟨ho,ho2,?_⟩
  rw [e]
  exact h2 hw
def sIx (n d:Nat):Option Int->Nat
 |none=>d
 |some v=>if v<0 then (v+(n:Int)).toNat else min v.toNat n
theorem zSL (n d:Nat) (hd:d<=n) (o:Option Int):sIx n d o<=n:=by
 cases o with
 |none=>exact hd
 |some v=>
  show (if v<0 then (v+(n:Int)).toNat else min v.toNat n)<=n
  by_cases hv:v<0
  ·rw [if_pos hv];omega
  ·rw [if_neg hv];exact Nat.min_le_right _ _
theorem zKf (v:Int) (n d:Nat):(if v<0 then max (v+(n:Int)) 0 else min v (n:Int))=((sIx n d (some v):Nat):Int):=by
 show (if v<0 then max (v+(n:Int)) 0 else min v (n:Int))=(((if v<0 then (v+(n:Int)).toNat else min v.toNat n):Nat):Int)
 by_cases hv:v<0
 ·simp only [if_pos hv];omega
 ·simp only [if_neg hv];omega
theorem zJm (lo hi:Option Int) (n:Nat):Builtin.Slice.sliceAdjust lo hi 1 (n:Int)=(((sIx n 0 lo:Nat):Int),((sIx n n hi:Nat):Int)):=by
 have h1:¬ ((1:Int)<0):=by omega
 unfold Builtin.Slice.sliceAdjust
 simp only [h1,if_false]
 refine Prod.ext ?_ ?_
 ·cases lo with
  |none=>rfl
  |some v=>exact zKf v n 0
 ·cases hi with
  |none=>rfl
  |some v=>exact zKf v n n
theorem zJn (i j:Nat):Builtin.Slice.slicePlaces (i:Int) (j:Int) 1=j-i:=by
 unfold Builtin.Slice.slicePlaces
 have h1:(1:Int)>0:=by omega
 simp only [h1,if_true,Int.ediv_one]
 split<;>omega
theorem zFe {Q:Option Int->Shared->Prop} (p:IsPart v o) (h:Q o s):wpAny (model prog w) A (Builtin.Slice.slicePartIndex v) Q E s:=by
 cases p with
 |none=>exact slicePart_none h
 |int i t=>exact slicePart_int h
theorem zBg {sl:Addr} {vl vu:Value} {lo hi:Option Int} {n:Nat} {Q:Int×Int×Nat->Shared->Prop} (hs:s.heap.IsSliceOf sl vl vu .none) (pl:IsPart vl lo) (pu:IsPart vu hi)
  (h:Q (((sIx n 0 lo:Nat):Int),1,sIx n n hi-sIx n 0 lo) s):wpAny (model prog w) A (Builtin.Slice.sliceApplied (.ref sl) (pure (n:Int))) Q E s:=by
 obtain ⟨os,hos,hcs,hds⟩:=id hs
 unfold Builtin.Slice.sliceApplied Builtin.Slice.sliceFields
 refine wpAny_bind (wpAny_bind (wpAny_field hos hds (x:=vl) rfl (wpAny_bind (wpAny_field hos hds (x:=vu) rfl (wpAny_bind (wpAny_field hos hds (x:=.none) rfl (wpAny_pure ?_)))))))
 refine wpAny_bind (slicePart_none ?_)
 show wpAny _ _ (if ((1:Int) == 0)=true then _ else _) _ _ s
 rw [if_neg (by decide)]
 refine wpAny_bind (zFe pl (wpAny_bind (zFe pu (wpAny_bind (wpAny_pure ?_)))))
 show wpAny _ _ (match Builtin.Slice.sliceAdjust lo hi 1 (n:Int) with|(lo,hi)=>pure (lo,(1:Int),Builtin.Slice.slicePlaces lo hi 1)) _ _ s
 rw [zJm lo hi n]
 show wpAny _ _ (pure (((sIx n 0 lo:Nat):Int),(1:Int),Builtin.Slice.slicePlaces ((sIx n 0 lo:Nat):Int) ((sIx n n hi:Nat):Int) 1)) _ _ s
 rw [zJn]
 exact wpAny_pure h
theorem zNC (xs:Array Value) (i k:Nat):((List.range k).filterMap λ(m:Nat)=>xs[((i:Int)+(m:Int)*1).toNat]?).toArray=((xs.toList.drop i).take k).toArray:=by
 have e:(λ(m:Nat)=>xs[((i:Int)+(m:Int)*1).toNat]?)=λm=>xs[i+m]?:=by
  funext m
  have:((i:Int)+(m:Int)*1).toNat=i+m:=by omega
  rw [this]
 rw [e]
 have:=pick_run xs i k
 rw [List.filterMap_map] at this
 have e2:((λx=>xs[x]?)∘λx=>i+x)=λm=>xs[i+m]?:=rfl
 rw [e2] at this
 rw [this]
theorem zDT {t sl:Addr} {items:Array Value} {vl vu:Value} {lo hi:Option Int} {Q:VSt} (ht:IsTup s.heap t items) (hs:s.heap.IsSliceOf sl vl vu .none) (pl:IsPart vl lo) (pu:IsPart vu hi)
  (hw:¬ (sIx items.size 0 lo=0/\sIx items.size items.size hi=items.size))
  (h:Q (.ref s.heap.objs.size) { s with heap:=s.heap.push { cls:=.type "tuple",data:=.seq ((items.toList.drop (sIx items.size 0 lo)).take (sIx items.size items.size hi-sIx items.size 0 lo)).toArray } })
  (hsz:items.size<=sizeLine):wpAny (model prog w) A (getItem (.ref t) (.ref sl)) Q E s:=by
 have htake:sizeOk (.seq ((items.toList.drop (sIx items.size 0 lo)).take (sIx items.size items.size hi-sIx items.size 0 lo)).toArray):=by
  show ((items.toList.drop (sIx items.size 0 lo)).take (sIx items.size items.size hi-sIx items.size 0 lo)).toArray.size<=sizeLine
  rw [List.size_toArray,List.length_take,List.length_drop,Array.length_toList]
  omega
 have hj:sIx items.size items.size hi<=items.size:=zSL _ _ (Nat.le_refl _) hi
 obtain ⟨os,hos,hcs,hds⟩:=id hs
 have hTs:s.TypeIs (.ref sl) "slice":=⟨os,hos,hcs⟩
 unfold getItem
 try with_reducible refine wpAny_holding ?_
 first|refine wpAny_bind (wpAny_pure ?_)|skip
 refine wpAny_bind (wpAny_sequenceKey ht.typeIs (by decide) ?_)
 refine wpAny_bind (wpAny_callSpecial?_slot (name:=Str.ofString "__getitem__") ht.typeIs PyProof.Rows.slot_tuple_getitem
  (wpAny_call_entry PyProof.Rows.slot_tuple_getitem ht.typeIs entry_tuple_getitem ?_ (args_tuple_getitem _ _)))
 show wpAny _ _ (Builtin.Tuple.tupleItemsOf (.ref t) >>= _) _ _ s
 refine wpAny_bind (tupleItemsOf_ ht ?_)
 refine wpAny_bind (wpAny_typeOf hTs ?_)
 rw [if_pos (by decide)]
 refine wpAny_bind (zBg hs pl pu ?_)
 have hno:¬ ((((sIx items.size 0 lo:Nat):Int) == 0 && (1:Int) == 1 && (sIx items.size items.size hi-sIx items.size 0 lo) == items.size)=true):=by
  intro q
  rw [Bool.and_eq_true,Bool.and_eq_true] at q
  have q1:((sIx items.size 0 lo:Nat):Int)=0:=eq_of_beq q.1.1
  have q2:sIx items.size items.size hi-sIx items.size 0 lo=items.size:=eq_of_beq q.2
  exact hw ⟨by omega,by omega⟩
 show wpAny _ _ (if (((sIx items.size 0 lo:Nat):Int) == 0 && (1:Int) == 1 && (sIx items.size items.size hi-sIx items.size 0 lo) == items.size)=true then _ else _) _ _ s
 rw [if_neg hno,zNC]
 first
  |exact wpAny_bind (m:=Builtin.Tuple.tupleExact _) (wpAny_newObj_type (wpAny_pure ⟨_,rfl,wpAny_pure h⟩) htake)
  |exact wpAny_bind (m:=Builtin.Tuple.tupleExact _) (wpAny_newObj_type (wpAny_bind (wpAny_pure (wpAny_pure ⟨_,rfl,wpAny_pure h⟩))) htake)
  |exact wpAny_bind (wpAny_bind (m:=Builtin.Tuple.tupleExact _) (wpAny_newObj_type (wpAny_pure (wpAny_pure ⟨_,rfl,wpAny_pure h⟩)) htake))
  |exact wpAny_bind (wpAny_bind (m:=Builtin.Tuple.tupleExact _) (wpAny_newObj_type (wpAny_pure ⟨_,rfl,wpAny_pure h⟩) htake))
end
end HT
namespace L2
open PySem PySem.Spec PyProof.Rows
abbrev TO:=St->Hp->(Option Int->Hp->Prop)->Prop
def PO (X:Cx) (e:Option Expr) (t:TO):Prop:=
 ∀ (pins:PNt) (s:Shared) (σ:St) (H:Hp) (Q:Option Int->Hp->Prop),Inv X pins σ H s->t σ H Q ->
  wpAny (model X.prog X.w) X.A (evalPart e X.env) (λu s'=>∃ o H',Inv X pins σ H' s'/\IsPart u o/\Q o H') X.xe s
def zPm:TO:=λ_ H Q=>Q none H
def tPart (t:TE):TO:=λσ H Q=>t σ H λx H1=>∃ i,x = .int i/\Q (some i) H1
theorem zFf {ns:List Int}:∀ {us:List Value},yI (ns.map V.int) us->IntsAre us ns:=by
 induction ns with
 |nil=>intro us r;rw [List.map_nil] at r;cases r;exact .nil
 |cons n ns ih=>
  intro us r
  rw [List.map_cons] at r
  cases r with
  |cons r1 r2=>
   obtain ⟨t,e⟩:=r1
   subst e
   exact .cons n t (ih r2)
section
variable {X:Cx} {e:Expr} {te:TE} {lo hi:Option Expr} {tl th:TO} {pos p2:Pos}
theorem zPn:PO X none zPm:=by
 intro pins s σ H Q I h
 rw [evalPart_none]
 exact wpAny_pure ⟨none,H,I,.none,h⟩
theorem zPo (h:PE X e te):PO X (some e) (tPart te):=by
 intro pins s σ H Q I hw
 rw [evalPart_some]
 refine thn (h pins s σ H _ I hw) λu s1 zz=>?_
 obtain ⟨x,H1,I1,r1,q1⟩:=zz
 obtain ⟨i,rfl,q⟩:=q1
 obtain ⟨t,rfl⟩:=r1
 exact ⟨some i,H1,I1,.int i t,q⟩
def SlR (X:Cx) (r:V->Option Int->Option Int->Hp->VK->Prop):Prop:=
 ∀ (pins:PNt) (s:Shared) (σ:St) (H:Hp) (x:V) (v vl vu:Value) (lo hi:Option Int) (sl:Addr) (Q:VK),Inv X pins σ H s->y8 x v->s.heap.IsSliceOf sl vl vu .none->IsPart vl lo->IsPart vu hi->r x lo hi H Q ->
  ∃ T id,typeLookup (.type T) "__getitem__" = pure (some (.builtin id))/\s.TypeIs v T/\wpAny (model X.prog X.w) X.A (getItem v (.ref sl)) (EP X pins σ Q) X.xe s
def tSl (r:V->Option Int->Option Int->Hp->VK->Prop) (te:TE) (tl th:TO):TE:=λσ H Q=>te σ H λx H1=>tl σ H1 λl H2=>th σ H2 λu H3=>r x l u H3 Q
theorem zIs {r:V->Option Int->Option Int->Hp->VK->Prop} (hr:SlR X r) (he:PE X e te) (hl:PO X lo tl) (hu:PO X hi th):PE X (.Subscript e (.Slice lo hi none p2) pos) (tSl r te tl th):=by
 intro pins s σ H Q I h
 refine Subscript_ (thn (he pins s σ H _ I h) λv s1 zz=>?_)
 obtain ⟨x,H1,I1,r1,q1⟩:=zz
 refine wpAny_Slice (thn (hl pins s1 σ H1 _ I1 q1) λvl s2 ⟨l,H2,I2,pl,q2⟩=>thn (hu pins s2 σ H2 _ I2 q2) λvu s3 zz=>?_)
 obtain ⟨u,H3,I3,pu,q3⟩:=zz
 rw [evalPart_none]
 refine wpAny_pure ?_
 have I4:Inv X pins σ H3 { s3 with heap:=s3.heap.push { cls:=.type "slice",data:=.fields #[vl,vu,.none] } }:=I3.kept (t':=s3.toks) λb ob q=>Heap.get?_push_of_some _ q
 obtain ⟨T,id,hT,ht,hg⟩:=hr pins { s3 with heap:=s3.heap.push { cls:=.type "slice",data:=.fields #[vl,vu,.none] } } σ H3 x v vl vu l u s3.heap.objs.size Q I4 r1 (Heap.IsSliceOf.new ..) pl pu q3
 show wpAny (model X.prog X.w) X.A (subscriptTail e (.Slice lo hi none p2) v (.ref s3.heap.objs.size)) (EP X pins σ Q) X.xe { s3 with heap:=s3.heap.push { cls:=.type "slice",data:=.fields #[vl,vu,.none] } }
 exact tail_any (ops:=[.ref s3.heap.objs.size,v]) ht hT hg (by with_unfolding_all rfl)
def zOn (xs:List V) (lo hi:Option Int):List V:=(xs.drop (HT.sIx xs.length 0 lo)).take (HT.sIx xs.length xs.length hi-HT.sIx xs.length 0 lo)
theorem zEb (xs:List V) (lo hi:Option Int):(zOn xs lo hi).length<=xs.length:=by
 unfold zOn
 rw [List.length_take,List.length_drop]
 omega
def rSlT (K:Fg):V->Option Int->Option Int->Hp->VK->Prop:=λx lo hi H Q=>∃ a xs,x = .ref a/\SqT K H a xs /\
 ¬ (HT.sIx xs.length 0 lo=0/\HT.sIx xs.length xs.length hi=xs.length)/\∀ p,H p=none->Q (.ref p) (upd H p (.tup (zOn xs lo hi)))
theorem zSM:SlR X (rSlT X.K):=by
 intro pins s σ H x v vl vu lo hi sl Q I rx hs pl pu h
 obtain ⟨a,xs,rfl,hx,hw,q⟩:=h
 cases rx
 obtain ⟨its,r,ht,hz⟩:=I.tuple hx
 have hlen:its.toArray.size=xs.length:=by rw [List.size_toArray];exact r.length.symm
 refine ⟨"tuple",_,PyProof.Rows.slot_tuple_getitem.lookup,ht.typeIs,?_⟩
 refine HT.zDT ht hs pl pu (by rw [hlen];exact hw) ?_ (by rw [hlen];exact hz)
 rw [hlen]
 refine ⟨.ref s.heap.objs.size,_,I.laid (t':=s.toks) (o:=.tup (zOn xs lo hi)) (λb ob q=>Heap.get?_push_of_some _ q) (Nat.le_refl _) ?_,rfl,q _ (I.hok.fresh (Nat.le_refl _))⟩
 exact ⟨Nat.le_trans (zEb xs lo hi) hz,_,(r.drop (HT.sIx xs.length 0 lo)).take (HT.sIx xs.length xs.length hi-HT.sIx xs.length 0 lo),zBs.new _ _⟩
def rCatT (K:Fg):R2:=λx y H Q=>∃ a b xs ys,x = .ref a/\y = .ref b/\SqT K H a xs/\SqT K H b ys/\xs≠[]/\xs.length+ys.length<=sizeLine /\
 (ys = []->Q (.ref a) H)/\(ys≠[]->∀ p,H p=none->Q (.ref p) (upd H p (.tup (xs++ys))))
theorem yI.nil_iff (r:yI xs us):us = []↔xs = []:=by
 cases r with
 |nil=>simp
 |cons _ _=>simp
theorem zPp:OpR X (binaryOp .Add) (rCatT X.K):=by
 intro pins s σ H x y v u Q I rx ry h
 obtain ⟨a,b,xs,ys,rfl,rfl,ha,hb,hx,hz,q1,q2⟩:=h
 cases rx
 cases ry
 obtain ⟨its,r1,p1,_⟩:=I.tuple ha
 obtain ⟨its2,r2,p2,_⟩:=I.tuple hb
 refine HT.zPl p1 p2 (λz=>hx (r1.nil_iff.mp z)) (λz=>⟨.ref a,H,I,rfl,q1 (r2.nil_iff.mp z)⟩) (λz=>?_) (by rw [<- r1.length,<- r2.length];exact hz)
 refine ⟨.ref s.heap.objs.size,_,I.laid (t':=s.toks) (o:=.tup (xs++ys)) (λb ob q=>Heap.get?_push_of_some _ q) (Nat.le_refl _) ?_,rfl,q2 (λw=>z (r2.nil_iff.mpr w)) _ (I.hok.fresh (Nat.le_refl _))⟩
 exact ⟨by rw [List.length_append];exact hz,_,r1.append r2,zBs.new _ _⟩
end
end L2
namespace L2
open PySem PySem.Spec PyProof.Rows
def ixN (n:Nat) (i:Int):Option Nat:=if 0<=i then (if i<n then some i.toNat else none) else if -(n:Int)<=i then some (i+n).toNat else none
def atI {α:Type} (xs:List α) (i:Int):Option α:=(ixN xs.length i).bind λj=>xs[j]?
theorem zKg (h:ixN n i=some j):seqIndex? i n=some j/\j<n/\-(n:Int)<=i/\i<n:=by
 unfold ixN at h
 by_cases h0:0<=i
 ·rw [if_pos h0] at h
  by_cases h1:i<n
  ·rw [if_pos h1] at h
   have e:i.toNat=j:=Option.some.inj h
   exact ⟨by rw [seqIndex_of h0 h1,e],by omega,by omega,h1⟩
  ·rw [if_neg h1] at h;cases h
 ·rw [if_neg h0] at h
  by_cases h1 : -(n:Int)<=i
  ·rw [if_pos h1] at h
   have e:(i+n).toNat=j:=Option.some.inj h
   exact ⟨by rw [seqIndex_neg (by omega) h1,e],by omega,h1,by omega⟩
  ·rw [if_neg h1] at h;cases h
theorem zHz {α:Type} {xs:List α} {i:Int} {v:α} (h:atI xs i=some v):∃ j,seqIndex? i xs.length=some j/\xs[j]?=some v/\j<xs.length/\-(xs.length:Int)<=i/\i<xs.length:=by
 unfold atI at h
 cases e:ixN xs.length i with
 |none=>rw [e] at h;cases h
 |some j=>
  rw [e] at h
  obtain ⟨h1,h2,h3,h4⟩:=zKg e
  exact ⟨j,h1,h,h2,h3,h4⟩
def zKh (b:Expr):Prop:=∀ o i,subscripted b false o i=operate [o,i] (getItem o i)
def IxR (X:Cx) (r:R2):Prop:=
 ∀ (value slice:Expr) (pins:PNt) (s:Shared) (σ:St) (H:Hp) (x y:V) (v u:Value) (Q:VK),Inv X pins σ H s->y8 x v->y8 y u->r x y H Q ->
  subscripted slice false v u=operate [v,u] (getItem v u)->wpAny (model X.prog X.w) X.A (subscriptTail value slice v u) (EP X pins σ Q) X.xe s
def MtR (X:Cx) (id:String) (r:V->List V->Hp->VK->Prop):Prop:=
 ∀ (pins:PNt) (s:Shared) (σ:St) (H:Hp) (x:V) (xs:List V) (v:Value) (us:List Value) (Q:VK),Inv X pins σ H s->y8 x v->yI xs us->r x xs H Q ->
  wpAny (model X.prog X.w) X.A (call (.builtin id) (v::us)) (EP X pins σ Q) X.xe s
section
variable {X:Cx} {a b:Expr} {ta tb:TE} {pos:Pos}
theorem IxR.or (h:IxR X r) (h':IxR X r'):IxR X (λx y H Q=>r x y H Q\/r' x y H Q):=by
 intro value slice pins s σ H x y v u Q I rx ry q hs
 rcases q with q|q
 ·exact h value slice pins s σ H x y v u Q I rx ry q hs
 ·exact h' value slice pins s σ H x y v u Q I rx ry q hs
theorem pe_ix (hr:IxR X r) (ha:PE X a ta) (hb:PE X b tb) (hs:zKh b):PE X (.Subscript a b pos) (tOp r ta tb):=by
 intro pins s σ H Q I h
 exact Subscript_ (binT ha hb I h λv u s2 x y H2 I2 rx ry q=>hr a b pins s2 σ H2 x y v u Q I2 rx ry q (hs _ _))
def rIxL (K:Fg):R2:=λx y H Q=>∃ p xs i v,x = .ref p/\y = .int i/\SqL K H p xs/\atI xs i=some v/\Q v H
def rIxT (K:Fg):R2:=λx y H Q=>∃ p xs i v,x = .ref p/\y = .int i/\SqT K H p xs/\atI xs i=some v/\Q v H
def rIxS:R2:=λx y H Q=>∃ z i c,x = .str z/\y = .int i/\z.length<=sizeLine/\atI z.cps.toList i=some c/\Q (.str ⟨#[c]⟩) H
theorem zPq:IxR X (rIxL X.K):=by
 intro value slice pins s σ H x y v u Q I rx ry h hs
 obtain ⟨p,xs,i,z,rfl,rfl,hq,he,q⟩:=h
 cases rx
 obtain ⟨t,rfl⟩:=ry
 obtain ⟨its,r,pl,hz⟩:=I.list hq
 obtain ⟨j,h1,h2,h3,h4,h5⟩:=zHz he
 obtain ⟨w,ew,rw'⟩:=r.get h2
 have hl:=r.length
 have hn:=zEY
 have fin:EP X pins σ Q w s:=⟨z,H,I,rw',q⟩
 by_cases h0:0<=i
 ·have hj:i.toNat=j:=by
   rw [seqIndex_of h0 h5] at h1
   exact Option.some.inj h1
  exact item_listR pl.isList h0 (by omega) (by rw [hj];simpa using ew) fin hs
 ·have hj:(i+(its.toArray.size:Int)).toNat=j:=by
   rw [seqIndex_neg (by omega) h4] at h1
   rw [List.size_toArray,<- hl]
   exact Option.some.inj h1
  exact subscriptTail_builtinR (x:=w) pl.isList.typeIs slot_list_getitem.lookup
   (wpAny_getItem_list_neg (Q:=λr s'=>r=w/\EP X pins σ Q r s') pl.isList (by omega) (by rw [List.size_toArray]<;>omega) (by omega) (by rw [hj];simpa using ew) ⟨rfl,fin⟩) hs
theorem zSN:IxR X (rIxT X.K):=by
 intro value slice pins s σ H x y v u Q I rx ry h hs
 obtain ⟨p,xs,i,z,rfl,rfl,hq,he,q⟩:=h
 cases rx
 obtain ⟨t,rfl⟩:=ry
 obtain ⟨its,r,pl,hz⟩:=I.tuple hq
 obtain ⟨j,h1,h2,h3,h4,h5⟩:=zHz he
 obtain ⟨w,ew,rw'⟩:=r.get h2
 have hl:=r.length
 have hn:=zEY
 have fin:EP X pins σ Q w s:=⟨z,H,I,rw',q⟩
 exact subscriptTail_builtinR (x:=w) pl.typeIs slot_tuple_getitem.lookup
  (getItem_tuple (j:=j) (Q:=λr s'=>r=w/\EP X pins σ Q r s') pl (by omega) (by omega) (by rw [List.size_toArray,<- hl];exact h1) (by simpa using ew) ⟨rfl,fin⟩) hs
theorem zSO:IxR X rIxS:=by
 intro value slice pins s σ H x y v u Q I rx ry h hs
 obtain ⟨z,i,c,rfl,rfl,hz,he,q⟩:=h
 obtain ⟨t,rfl⟩:=rx
 obtain ⟨t',rfl⟩:=ry
 obtain ⟨j,h1,h2,h3,h4,h5⟩:=zHz he
 have hl:z.cps.toList.length=z.length:=by simp [Str.length]
 rw [hl] at h1 h4 h5
 have hn:=zEY
 exact tail_any (typeIs_str s z t) slot_str_getitem.lookup (getItem_str (c:=c) (by
  have e1:decide (i < -(2 ^ 63:Int))=false:=decide_eq_false (by omega)
  have e2:decide (i>=2 ^ 63)=false:=decide_eq_false (by omega)
  rw [e1,e2,Bool.or_false]) (by rw [h1];simpa using h2) ⟨.str ⟨#[c]⟩,H,I.tok _,⟨_,rfl⟩,q⟩) hs
def rIx (K:Fg):R2:=λx y H Q=>rIxL K x y H Q\/rIxT K x y H Q\/rIxS x y H Q
theorem zKi:IxR X (rIx X.K):=zPq.or (zSN.or zSO)
theorem zJo (its:List Value) (n j:Nat) (u:Value):Obj.mapSeq (·.setIfInBounds j u) { cls:=.type "list",data:=.seq its.toArray n }={ cls:=.type "list",data:=.seq (its.set j u).toArray n }:=by
 simp [Obj.mapSeq]
theorem Inv.lst {s:Shared} (I:Inv X pins σ H s) (h:H p=some (.lst xs)) :
  ∃ (its:List Value) (n:Nat),yI xs its/\s.heap.get? p=some { cls:=.type "list",data:=.seq its.toArray n }/\xs.length<=sizeLine:=by
 obtain ⟨z,its,n,r,e⟩:=I.hok p _ h
 exact ⟨its,n,r,e,z⟩
theorem Inv.lstUpd {s:Shared} {xs ys:List V} {its its':List Value} {f:Obj->Obj} (I:Inv X pins σ H s) (h:H p=some (.lst xs)) (ho:s.heap.get? p=some { cls:=.type "list",data:=.seq its.toArray n }) (hf:f { cls:=.type "list",data:=.seq its.toArray n }={ cls:=.type "list",data:=.seq its'.toArray n' }) (r:yI ys its') (hz:ys.length<=sizeLine) (t:Nat) :
  Inv X pins σ (upd H p (.lst ys)) { s with heap:=s.heap.update p f,toks:=t }:=by
 have e:(s.heap.update p f).get? p=some { cls:=.type "list",data:=.seq its'.toArray n' }:=by
  rw [Heap.get?_update_self f ho (by rw [hf]<;>rfl),hf]
 refine I.write (x:=p) (e:=p) (by rw [h];trivial) (.inl rfl) (λb u hb q=>(Heap.get?_update_other _ _ (Ne.symm hb)).trans q) ⟨_,e⟩ ?_
 exact ⟨hz,its',n',r,e⟩
def rSetL:V->V->V->Hp->(Hp->Prop)->Prop:=λo i v H Q=>∃ p xs k j,o = .ref p/\i = .int k/\H p=some (.lst xs)/\ixN xs.length k=some j/\Q (upd H p (.lst (xs.set j v)))
theorem zND:PSet X rSetL:=by
 intro pins s σ H o i v ov iv u Q I ro ri rv h
 obtain ⟨p,xs,k,j,rfl,rfl,hp,hj,q⟩:=h
 cases ro
 obtain ⟨t,rfl⟩:=ri
 obtain ⟨its,n,r,ho,hz⟩:=I.lst hp
 obtain ⟨h1,h2,h3,h4⟩:=zKg hj
 have hl:=r.length
 have hn:=zEY
 have I':Inv X pins σ (upd H p (.lst (xs.set j v))) { s with heap:=s.heap.update p (Obj.mapSeq (·.setIfInBounds j u)) }:=
  I.lstUpd hp ho (zJo its n j u) (r.set rv j) (by rw [List.length_set];exact hz) s.toks
 by_cases h0:0<=k
 ·have hk:k.toNat=j:=by
   rw [seqIndex_of h0 h4] at h1
   exact Option.some.inj h1
  exact PySem.W.ki_setAt ho h0 (by omega) (by rw [List.size_toArray,<- hl];exact h4) (by rw [hk];exact ⟨_,I',q⟩)
 ·have hk:(k+(its.toArray.size:Int)).toNat=j:=by
   rw [seqIndex_neg (by omega) h3] at h1
   rw [List.size_toArray,<- hl]
   exact Option.some.inj h1
  exact PySem.W.ki_setBack ho (by omega) (by rw [List.size_toArray,<- hl];exact h3) (by omega) (by rw [hk];exact ⟨_,I',q⟩)
theorem zG1 (lo hi:Option Int) (n:Nat):(sliceBounds lo hi none n).1=((HT.sIx n 0 lo:Nat):Int)/\(sliceBounds lo hi none n).2.1=((HT.sIx n n hi:Nat):Int)/\(sliceBounds lo hi none n).2.2=1:=by
 refine ⟨?_,?_,rfl⟩
 ·cases lo with
  |none=>simp [sliceBounds,HT.sIx]
  |some i=>
   simp only [sliceBounds,HT.sIx,Option.getD_none,show (1:Int)>0 by decide,if_true]
   by_cases h:i<0
   ·simp only [h,if_true]<;>omega
   ·simp only [h,if_false]<;>omega
 ·cases hi with
  |none=>simp [sliceBounds,HT.sIx]
  |some i=>
   simp only [sliceBounds,HT.sIx,Option.getD_none,show (1:Int)>0 by decide,if_true]
   by_cases h:i<0
   ·simp only [h,if_true]<;>omega
   ·simp only [h,if_false]<;>omega
theorem zF9 (its:List Value) (lo hi:Option Int):slicePick its.toArray lo hi none=((its.drop (HT.sIx its.length 0 lo)).take (HT.sIx its.length its.length hi-HT.sIx its.length 0 lo)).toArray:=by
 obtain ⟨h1,h2,h3⟩:=zG1 lo hi its.toArray.size
 unfold slicePick
 rw [h1,h2,h3]
 simp only [sliceRange_one,pick_run,List.size_toArray]<;>rfl
def rSlL (K:Fg):V->Option Int->Option Int->Hp->VK->Prop:=λx lo hi H Q=>∃ a xs,x = .ref a/\SqL K H a xs/\∀ p,H p=none->Q (.ref p) (upd H p (.lst (zOn xs lo hi)))
theorem zPr:SlR X (rSlL X.K):=by
 intro pins s σ H x v vl vu lo hi sl Q I rx hs pl pu h
 obtain ⟨a,xs,rfl,hx,q⟩:=h
 cases rx
 obtain ⟨its,r,ht,hz⟩:=I.list hx
 have hlen:=r.length
 refine ⟨"list",_,slot_list_getitem.lookup,ht.isList.typeIs,?_⟩
 refine wpAny_getItem_list_slice ht.isList hs pl pu .none (by simp) ?_ (by rw [List.size_toArray]<;>omega)
 rw [zF9,<- hlen]
 refine ⟨.ref s.heap.objs.size,_,I.laid (t':=s.toks) (o:=.lst (zOn xs lo hi)) (λb ob q=>Heap.get?_push_of_some _ q) (Nat.le_refl _) ?_,rfl,q _ (I.hok.fresh (Nat.le_refl _))⟩
 exact ⟨Nat.le_trans (zEb xs lo hi) hz,_,0,(r.drop (HT.sIx xs.length 0 lo)).take (HT.sIx xs.length xs.length hi-HT.sIx xs.length 0 lo),Heap.get?_push_size _ rfl⟩
theorem zDs:zAT X (.builtin "len") (λxs H Q=>∃ p ys,xs = [.ref p]/\(SqL X.K H p ys\/SqT X.K H p ys)/\Q (.int ys.length) H):=by
 intro pins s σ H xs us Q I r h
 obtain ⟨p,ys,rfl,hq,q⟩:=h
 obtain ⟨u,rfl,rx⟩:=zCs r
 cases rx
 have hn:=zEY
 rcases hq with hq|hq
 ·obtain ⟨its,r',pl,hz⟩:=I.list hq
  have hlen:=r'.length
  exact Calls.call_len_list pl.isList (by simp only [List.size_toArray]<;>omega) ⟨.int ys.length,H,I.tok _,⟨s.toks+1,by rw [List.size_toArray,hlen]⟩,q⟩
 ·obtain ⟨its,r',pl,hz⟩:=I.tuple hq
  have hlen:=r'.length
  exact len_tuple pl (by simp only [List.size_toArray]<;>omega) ⟨.int ys.length,H,I.tok _,⟨s.toks+1,by rw [List.size_toArray,hlen]⟩,q⟩
theorem zG2:zAT X (.builtin "len") (λxs H Q=>∃ z,xs = [.str z]/\z.length<=sizeLine/\Q (.int z.length) H):=by
 intro pins s σ H xs us Q I r h
 obtain ⟨z,rfl,hz,q⟩:=h
 obtain ⟨u,rfl,t,rfl⟩:=zCs r
 have hn:=zEY
 exact len_str (by omega) ⟨.int z.length,H,I.tok _,⟨_,rfl⟩,q⟩
theorem zDt:zAT X (.type "list") (λxs H Q=>∃ p ys,xs = [.ref p]/\(SqL X.K H p ys\/SqT X.K H p ys)/\∀ l,H l=none->Q (.ref l) (upd H l (.lst ys))):=by
 intro pins s σ H xs us Q I r h
 obtain ⟨p,ys,rfl,hq,q⟩:=h
 obtain ⟨u,rfl,rx⟩:=zCs r
 cases rx
 have fin:∀ (its:List Value),yI ys its->ys.length<=sizeLine->∀ (h':Heap) (c':Nat),(∀ b o',s.heap.get? b=some o'->h'.get? b=some o') ->
   h'.get? s.heap.objs.size=some { cls:=.type "list",dict:=none,data:=.seq its.toArray c',slots:=#[] }->EP X pins σ Q (.ref s.heap.objs.size) { s with heap:=h' }:=λits r' hz h' c' kp e=>
  ⟨.ref s.heap.objs.size,_,I.laid (t':=s.toks) kp (Nat.le_refl _) (show zAI X.prog X.w _ h' _ (.lst ys) from ⟨hz,its,c',r',e⟩),rfl,q _ (I.hok.fresh (Nat.le_refl _))⟩
 rcases hq with hq|hq
 ·obtain ⟨its,r',pl,hz⟩:=I.list hq
  have hlen:=r'.length
  obtain ⟨o,ho,hc,n,hd⟩:=pl.isList
  exact call_list_seq p (.inl rfl) ho hc hd (λh' c' kp e=>fin its r' hz h' c' kp e) (by simp only [List.size_toArray]<;>omega)
 ·obtain ⟨its,r',pl,hz⟩:=I.tuple hq
  have hlen:=r'.length
  obtain ⟨o,ho,hc,n,hd⟩:=pl
  exact call_list_seq p (.inr rfl) ho hc hd (λh' c' kp e=>fin its r' hz h' c' kp e) (by simp only [List.size_toArray]<;>omega)
theorem zCt:zAT X (.type "tuple") (λxs H Q=>∃ p ys,xs = [.ref p]/\((SqL X.K H p ys/\∀ l,H l=none->Q (.ref l) (upd H l (.tup ys)))\/(SqT X.K H p ys/\Q (.ref p) H))):=by
 intro pins s σ H xs us Q I r h
 obtain ⟨p,ys,rfl,h⟩:=h
 obtain ⟨u,rfl,rx⟩:=zCs r
 cases rx
 rcases h with ⟨hq,q⟩|⟨hq,q⟩
 ·obtain ⟨its,r',pl,hz⟩:=I.list hq
  have hlen:=r'.length
  refine call_tuple_list pl.isList (λh' kp=>?_) (by simp only [List.size_toArray]<;>omega)
  have I1:Inv X pins σ H { s with heap:=h' }:=I.kept (t':=s.toks) kp
  have I2:Inv X pins σ (upd H h'.objs.size (.tup ys)) { s with heap:=h'.push { cls:=.type "tuple",data:=.seq its.toArray } }:=
   I1.laid (t':=s.toks) (λb o e=>Heap.get?_push_of_some _ e) (Nat.le_refl _) (show zAI X.prog X.w _ _ _ (.tup ys) from ⟨hz,its,r',zBs.new _ _⟩)
  exact ⟨.ref h'.objs.size,_,I2,rfl,q _ (I1.hok.fresh (Nat.le_refl _))⟩
 ·obtain ⟨its,r',pl,hz⟩:=I.tuple hq
  exact call_tuple_same pl ⟨.ref p,H,I,rfl,q⟩
def tyV (K:Fg) (T:String) (x:V) (H:Hp):Prop:=match x with
 |.str _=>T = "str"
 |.int _=>T = "int"
 |.ref p=>(T = "list"/\∃ xs,SqL K H p xs)\/(T = "tuple"/\∃ o,K.lookup p=some o/\o.cls = .type "tuple"/\o.dict=none) \/
   (T = "dict"/\((∃ kvs,H p=some (.dK kvs))\/∃ kvs,H p=some (.dT kvs)))\/(T = "set"/\∃ S n,H p=some (.set S n))
 |_=>False
theorem zOo {s:Shared} (I:Inv X pins σ H s) (r:y8 x v) (ty:tyV X.K T x H) :
  s.TypeIs v T/\∀ a,v = .ref a->∃ ob,s.heap.get? a=some ob/\ob.dict=none:=by
 cases x with
 |str z=>
  obtain ⟨t,rfl⟩:=r
  cases (show T = "str" from ty)
  exact ⟨typeIs_str s z t,λ_ e=>nomatch e⟩
 |int i=>
  obtain ⟨t,rfl⟩:=r
  cases (show T = "int" from ty)
  exact ⟨typeIs_int s i t,λ_ e=>nomatch e⟩
 |ref p=>
  cases r
  rcases ty with ⟨rfl,xs,hq⟩|⟨rfl,o,hk,hc,hd⟩|⟨rfl,hk⟩|⟨rfl,S,n,hk⟩
  ·obtain ⟨its,_,pl,_⟩:=I.list hq
   refine ⟨pl.isList.typeIs,λa e=>?_⟩
   cases e
   obtain ⟨o,n,e,c,hd,_⟩:=pl
   exact ⟨o,e,hd⟩
  ·refine ⟨⟨o,I.kIn p o hk,hc⟩,λa e=>?_⟩
   cases e
   exact ⟨o,I.kIn _ o hk,hd⟩
  ·have z:∃ o,s.heap.get? p=some o/\o.ExactDict:=by
    rcases hk with ⟨kvs,hk⟩|⟨kvs,hk⟩
    ·obtain ⟨_,_,_,_,o,_,_,e,ex,_⟩:=I.hok p _ hk
     exact ⟨o,e,ex⟩
    ·obtain ⟨_,_,_,_,o,_,_,e,ex,_⟩:=I.hok p _ hk
     exact ⟨o,e,ex⟩
   obtain ⟨o,e,ex⟩:=z
   refine ⟨⟨o,e,ex.1⟩,λa e2=>?_⟩
   cases e2
   exact ⟨o,e,ex.2.1⟩
  ·obtain ⟨o,_,_,_,e,ex,_⟩:=I.hok p _ hk
   refine ⟨⟨o,e,ex.1⟩,λa e2=>?_⟩
   cases e2
   exact ⟨o,e,ex.2.1⟩
 |_=>exact False.elim ty
def tBM0 (K:Fg) (T:String) (r:V->List V->Hp->VK->Prop) (to:TE):TE:=λσ H Q=>to σ H λx H1=>tyV K T x H1/\r x [] H1 Q
def tBM (K:Fg) (T:String) (r:V->List V->Hp->VK->Prop) (to:TE) (t:TA):TE:=λσ H Q=>to σ H λx H1=>tyV K T x H1/\t σ H1 λxs H2=>r x xs H2 Q
variable {o e:Expr} {es:List Expr} {to:TE} {t:TA} {name:Str} {apos cpos:Pos} {T id:String} {r:V->List V->Hp->VK->Prop}
theorem zSP (pa:PlainAttrs T) (slot:Slot T name id) (hty:typeOf (.builtin id)=pure (.type "method_descriptor")) (hm:MtR X id r) (ho:PE X o to)
  (hbase:attributeBase o name X.env (eval o X.env)=eval o X.env:=by rfl) (hline:(apos.endLine == cpos.line)=true:=by rfl):PE X (.Call (.Attribute o name apos) [] [] cpos) (tBM0 X.K T r to):=by
 intro pins s σ H Q I h
 refine wpAny_Call_method0_late hbase hline (thn (ho pins s σ H _ I h) λv s1 zz=>?_)
 obtain ⟨x,H1,I1,r1,ty,q1⟩:=zz
 obtain ⟨h1,h2⟩:=zOo I1 r1 ty
 exact ⟨T,id,pa,slot,hty,h1,h2,Calls.callWith_builtin rfl (PySem.evalArgs_none (hm pins s1 σ H1 x [] v [] Q I1 r1 .nil q1))⟩
theorem zH0 (pa:PlainAttrs T) (slot:Slot T name id) (hty:typeOf (.builtin id)=pure (.type "method_descriptor")) (hm:MtR X id r) (ho:PE X o to) (ha:PA X (e::es) t)
  (hbase:attributeBase o name X.env (eval o X.env)=eval o X.env:=by rfl)
  (hfew:((backTo cpos (starEach (e::es) X.env)).all (λx=>!x.1) && (backToKw cpos (keywordEach [] X.env)).all (λx=>x.1.isSome)
   && decide ((e::es).length+([]:List Keyword).length+(if ([]:List Keyword).isEmpty then 0 else 1)<30))=true:=by rfl)
  (hline:(apos.endLine == cpos.line)=true:=by rfl) (hs:starEach (e::es) X.env=(false,eval e X.env)::starEach es X.env:=by rfl) (hplain:(backTo cpos (starEach es X.env)).any (·.1)=false:=by rfl) :
  PE X (.Call (.Attribute o name apos) (e::es) [] cpos) (tBM X.K T r to t):=by
 intro pins s σ H Q I h
 refine wpAny_Call_method_late hbase hfew hline rfl (thn (ho pins s σ H _ I h) λv s1 zz=>?_)
 obtain ⟨x,H1,I1,r1,ty,q1⟩:=zz
 obtain ⟨h1,h2⟩:=zOo I1 r1 ty
 refine ⟨T,id,pa,slot,hty,h1,h2,?_⟩
 have hA:=ha cpos pins s1 σ H1 _ I1 q1
 rw [hs] at hA ⊢
 refine Calls.callWith_builtin (by show (false || (backTo cpos (starEach es X.env)).any (·.1))=false;rw [hplain]<;>rfl) (Calls.evalArgs_plain ?_)
 exact thn hA λus s2 ⟨vs,H2,I2,r2,q2⟩=>hm pins s2 σ H2 x vs v us Q I2 r1 r2 q2
end
end L2
namespace L2
open PySem PySem.Spec PyProof.Rows
def MtM (X:Cx) (id:String) (r:V->List V->Hp->VK->Prop):Prop:=
 ∀ (pins:PNt) (s:Shared) (σ:St) (H:Hp) (x:V) (xs:List V) (v:Value) (us:List Value) (Q:VK),Inv X pins σ H s->y8 x v->yI xs us->r x xs H Q ->
  wpAny (model X.prog X.w) X.A (call (.builtin id) (v::us)) (EP X pins σ Q) X.xe s
theorem yI.one:∀ {x:V} {us:List Value},yI [x] us->∃ u,us = [u]/\y8 x u
 |_,_,.cons r .nil=>⟨_,rfl,r⟩
theorem yI.two:∀ {x y:V} {us:List Value},yI [x,y] us->∃ u v,us = [u,v]/\y8 x u/\y8 y v
 |_,_,_,.cons r (.cons q .nil)=>⟨_,_,rfl,r,q⟩
theorem yI.zero:∀ {us:List Value},yI [] us->us = []
 |_,.nil=>rfl
theorem yI.dropLast {xs:List V} {us:List Value} (h:yI xs us):yI xs.dropLast us.dropLast:=by
 induction h with
 |nil=>exact .nil
 |cons r t ih=>
  cases t with
  |nil=>exact .nil
  |cons q t'=>exact .cons r ih
theorem zJp {α:Type} (l:List α):l.eraseIdx (l.length-1)=l.dropLast:=by
 induction l with
 |nil=>rfl
 |cons a r ih=>
  cases r with
  |nil=>rfl
  |cons b r=>
   have e:(a::b::r).length-1=((b::r).length-1)+1:=by
    have h1:(a::b::r).length=r.length+2:=rfl
    have h2:(b::r).length=r.length+1:=rfl
    omega
   rw [e,List.eraseIdx_cons_succ,ih]
   all_goals rfl
section
variable {X:Cx} {pins:PNt} {σ:St} {H:Hp} {s:Shared} {l b:Addr} {xs ys zs:List V}
theorem Inv.lset {its its':List Value} {f:Array Value->Array Value} {t':Nat} (I:Inv X pins σ H s) (hH:H l=some (.lst xs)) (e:s.heap.get? l=some { cls:=.type "list",data:=.seq its.toArray n }) (hf:f its.toArray=its'.toArray) (hv:yI ys its') (hz:ys.length<=sizeLine) :
  Inv X pins σ (upd H l (.lst ys)) { s with heap:=s.heap.update l (Obj.mapSeq f),toks:=t' }:=by
 have q:=PySem.IsL.update e f
 rw [hf] at q
 refine I.write (x:=l) (e:=l) (by rw [hH];exact trivial) (.inl rfl) (λb' u hb hu=>(Heap.get?_update_other s.heap (Obj.mapSeq f) (Ne.symm hb)).trans hu) ⟨_,q⟩ ?_
 exact ⟨hz,its',_,hv,q⟩
theorem Inv.lnew {t':Nat} (I:Inv X pins σ H s) (hv:yI ys its) (hz:ys.length<=sizeLine) :
  Inv X pins σ (upd H s.heap.objs.size (.lst ys)) { s with heap:=s.heap.push { cls:=.type "list",data:=.seq its.toArray },toks:=t' }:=
 I.laid (λ_ _ q=>Heap.get?_push_of_some _ q) (Nat.le_refl _) ⟨hz,its,0,hv,Heap.get?_push_size _ rfl⟩
theorem Inv.fresh (I:Inv X pins σ H s):H s.heap.objs.size=none:=I.hok.fresh (Nat.le_refl _)
theorem Inv.lstM (I:Inv X pins σ H s) (hH:H l=some (.lst xs)):xs.length<=sizeLine/\∃ (its:List Value) (n:Nat),yI xs its/\xs.length=its.length/\s.heap.get? l=some { cls:=.type "list",data:=.seq its.toArray n }:=by
 obtain ⟨z,its,n,r,e⟩:=I.hok l _ hH
 exact ⟨z,its,n,r,r.length,e⟩
theorem zNE (h:n<=sizeLine):Builtin.List.listTooLong n=false:=by
 unfold Builtin.List.listTooLong
 exact decide_eq_false (by omega)
end
section
variable {X:Cx}
def zPs:V->List V->Hp->VK->Prop:=λx vs H Q=>∃ l xs y,x = .ref l/\vs = [y]/\H l=some (.lst xs)/\xs.length<sizeLine/\Q .non (upd H l (.lst (xs ++ [y])))
theorem zCu:MtM X "list.append" zPs:=by
 intro pins s σ H x vs v us Q I rx rv h
 obtain ⟨l,xs,y,rfl,rfl,hH,hz,q⟩:=h
 cases rx
 obtain ⟨u,rfl,ru⟩:=rv.one
 obtain ⟨z,its,n,r,hl,e⟩:=I.lstM hH
 refine call_meets F.slot_list_append ⟨_,e,rfl⟩ F.entry_list_append (F.args_list_append_2 _ _) (PySem.list_append l its.toArray n u (by rw [List.size_toArray];omega)) ⟨e,?_⟩
 refine ⟨.non,_,I.lset (its':=its ++ [u]) hH e (by simp) (r.append (.cons ru .nil)) ?_,rfl,q⟩
 rw [List.length_append,List.length_singleton]
 omega
def zPt:V->List V->Hp->VK->Prop:=λx vs H Q=>∃ l b xs zs,x = .ref l/\vs = [.ref b]/\H l=some (.lst xs)/\H b=some (.lst zs)/\xs.length+zs.length<=sizeLine/\Q .non (upd H l (.lst (xs++zs)))
theorem zKj:MtM X "list.extend" zPt:=by
 intro pins s σ H x vs v us Q I rx rv h
 obtain ⟨l,b,xs,zs,rfl,rfl,hH,hB,hz,q⟩:=h
 cases rx
 obtain ⟨u,rfl,ru⟩:=rv.one
 cases ru
 obtain ⟨z,its,n,r,hl,e⟩:=I.lstM hH
 obtain ⟨z2,its2,n2,r2,hl2,e2⟩:=I.lstM hB
 have hsz:its.toArray.size+its2.toArray.size<=sizeLine:=by rw [List.size_toArray,List.size_toArray];omega
 have hlong:¬ (!its.toArray.isEmpty && Builtin.List.listTooLong (its.toArray.size+its2.toArray.size))=true:=by
  rw [zNE hsz,Bool.and_false]
  exact Bool.false_ne_true
 refine call_meets F.slot_list_extend ⟨_,e,rfl⟩ F.entry_list_extend (F.args_list_extend_2 _ _)
  (AutoSeq1.list_extend_list_list_0 l its.toArray n b its2.toArray n2 hlong (by rw [List.size_toArray];omega) (by omega)) ⟨e,e2,?_⟩
 refine ⟨.non,_,I.lset (its':=its++its2) hH e (by simp) (r.append r2) ?_,rfl,q⟩
 rw [List.length_append]
 omega
def rPop:V->List V->Hp->VK->Prop:=λx vs H Q=>∃ l xs y,x = .ref l/\vs = []/\H l=some (.lst xs)/\xs[xs.length-1]?=some y/\Q y (upd H l (.lst xs.dropLast))
theorem zSQ:MtM X "list.pop" rPop:=by
 intro pins s σ H x vs v us Q I rx rv h
 obtain ⟨l,xs,y,rfl,rfl,hH,hy,q⟩:=h
 cases rx
 have hus:=rv.zero
 subst hus
 obtain ⟨z,its,n,r,hl,e⟩:=I.lstM hH
 obtain ⟨u,hu,ru⟩:=r.get hy
 have hy':its.toArray[its.toArray.size-1]?=some u:=by
  show its.toArray[its.length-1]?=some u
  rw [<- Array.getElem?_toList,<- hl]
  exact hu
 refine call_meets F.slot_list_pop ⟨_,e,rfl⟩ F.entry_list_pop (F.args_list_pop_1 _) (MeetsSeq.list_pop_last l its.toArray n u hy' (by rw [List.size_toArray];omega)) ⟨e,?_⟩
 refine ⟨y,_,I.lset (its':=its.dropLast) hH e ?_ r.dropLast ?_,ru,q⟩
 ·show its.toArray.eraseIdxIfInBounds (its.toArray.size-1)=its.dropLast.toArray
  rw [List.size_toArray,List.eraseIdxIfInBounds_toArray,zJp]
 ·rw [List.length_dropLast]
  omega
end
section
variable {prog:Program} {w:World} {A:Around} {E:VSt} {s:Shared}
end
section
variable {X:Cx}
end
end L2
namespace L2
open PySem PySem.Spec PyProof.Rows
section
variable {κ:Type} [DecidableEq κ]
def zBH (kvs:List (κ×V)) (k:κ):Option V:=(kvs.find? λkv=>decide (kv.1=k)).map (·.2)
def zFP (kvs:List (κ×V)) (k:κ) (v:V):List (κ×V):=
 if (kvs.any λkv=>decide (kv.1=k))=true then kvs.map (λkv=>if kv.1=k then (kv.1,v) else kv) else kvs ++ [(k,v)]
theorem zEB {p:κ×V} (e:p.1=k):zBH (p::r) k=some p.2:=by simp [zBH,List.find?_cons,e]
theorem zCv {p:κ×V} (e:¬ p.1=k):zBH (p::r) k=zBH r k:=by simp [zBH,List.find?_cons,e]
theorem zGA (k:κ):∀ kvs:List (κ×V),(kvs.any λkv=>decide (kv.1=k))=(zBH kvs k).isSome
 | []=>rfl
 |p::r=>by
  rw [List.any_cons]
  by_cases e:p.1=k
  ·simp only [zEB e,decide_eq_true e,Bool.true_or,Option.isSome_some]
  ·rw [zCv e,decide_eq_false e,Bool.false_or];exact zGA k r
theorem zBL (kvs:List (κ×V)) (k:κ) (v:V):(zFP kvs k v).length<=kvs.length+1:=by
 unfold zFP
 split
 ·rw [List.length_map];omega
 ·rw [List.length_append,List.length_cons,List.length_nil];omega
theorem zNF {kvs:List (κ×V)} (v:V) (h:zBH kvs k=none):zFP kvs k v=kvs ++ [(k,v)]:=by
 unfold zFP
 rw [zGA,h]
 exact if_neg (by decide)
theorem zHm.isSome_eq {o:Option V} {u:Option Value} (r:zHm o u):o.isSome=u.isSome:=by
 cases o with
 |none=>cases u with
  |none=>rfl
  |some _=>exact (show False from r).elim
 |some _=>cases u with
  |none=>exact (show False from r).elim
  |some _=>rfl
theorem KV.val (r:KV kvs vs) (k:κ):zHm (zBH kvs k) (valueAt vs k):=by
 unfold KV at r
 induction r with
 |nil=>exact True.intro
 |@cons p q ps qs h t ih=>
  obtain ⟨h1,h2⟩:=h
  by_cases e:p.1=k
  ·have e':q.1=k:=h1.symm.trans e
   have b:valueAt (q::qs) k=some q.2:=by simp [valueAt,List.find?_cons,e']
   rw [zEB e,b];exact h2
  ·have e':¬ q.1=k:=λz=>e (h1.trans z)
   have b:valueAt (q::qs) k=valueAt qs k:=by simp [valueAt,List.find?_cons,e']
   rw [zCv e,b];exact ih
theorem KV.any {kvs:List (κ×V)} {vs:List (κ×Value)} (r:KV kvs vs) (k:κ):(kvs.any λkv=>decide (kv.1=k))=vs.any λkv=>decide (kv.1=k):=by
 unfold KV at r
 induction r with
 |nil=>rfl
 |cons h t ih=>rw [List.any_cons,List.any_cons,ih,h.1]
theorem KV.repl {kvs:List (κ×V)} {vs:List (κ×Value)} (r:KV kvs vs) (k:κ) (ry:y8 y u) :
  KV (kvs.map λkv=>if kv.1=k then (kv.1,y) else kv) (vs.map λkv=>if kv.1=k then (kv.1,u) else kv):=by
 unfold KV at r ⊢
 induction r with
 |nil=>exact .nil
 |@cons p q ps qs h t ih=>
  rw [List.map_cons,List.map_cons]
  refine .cons ?_ ih
  obtain ⟨h1,h2⟩:=h
  by_cases e:p.1=k
  ·rw [if_pos e,if_pos (h1.symm.trans e)];exact ⟨h1,ry⟩
  ·rw [if_neg e,if_neg (λz=>e (h1.trans z))];exact ⟨h1,h2⟩
theorem KV.put (r:KV kvs vs) (k:κ) (ry:y8 y u):KV (zFP kvs k y) (stored vs k u):=by
 unfold zFP stored
 rw [r.any k]
 by_cases e:(vs.any λkv=>decide (kv.1=k))=true
 ·rw [if_pos e,if_pos e];exact r.repl k ry
 ·rw [if_neg e,if_neg e];exact Paired.snoc r ⟨rfl,ry⟩
theorem KV.length {kvs:List (κ×V)} {vs:List (κ×Value)} (r:KV kvs vs):kvs.length=vs.length:=Paired.length r
end
theorem zH1 (r:y8 (kV k) u):(yP P w).is k u=true:=by
 cases k with
 |inl i=>obtain ⟨t,e⟩:=(show ∃ t,u=Value.int i t from r);subst e;exact zHu P w i t
 |inr x=>obtain ⟨t,e⟩:=(show ∃ t,u=Value.str x t from r);subst e;exact zHv P w x t
theorem zSR (e:kV a=kV b):a=b:=by
 cases a with
 |inl i=>cases b with
  |inl j=>have e':V.int i=V.int j:=e;injection e' with e';rw [e']
  |inr y=>exact nomatch (show V.int i=V.str y from e)
 |inr x=>cases b with
  |inl j=>exact nomatch (show V.str x=V.int j from e)
  |inr y=>have e':V.str x=V.str y:=e;injection e' with e';rw [e']
theorem zKk:∀ {a b:List Key},a.map kV=b.map kV->a=b
 | [],[],_=>rfl
 | [],_::_,e=>by simp at e
 |_::_,[],e=>by simp at e
 |x::xs,y::ys,e=>by
  rw [List.map_cons,List.map_cons] at e
  injection e with e1 e2
  rw [zSR e1,zKk e2]
theorem zG3:∀ {ks:List Key} {us:List Value},yI (ks.map kV) us->ItemsAre (yP P w) ks us
 | [],_,r=>by rw [List.map_nil] at r;cases r;exact .nil
 |k::ks,_,r=>by
  rw [List.map_cons] at r
  cases r with
  |cons h t=>exact .cons (zH1 h) (zG3 t)
abbrev KT (H:Hp):List (List Key×V)->List (List Key×Addr×Value)->Prop:=Paired λp q=>p.1=q.1/\H q.2.1=some (.tup (p.1.map kV))/\y8 p.2 q.2.2
theorem KT.val (r:KT H kvs xs) (k:List Key):zHm (zBH kvs k) ((atKey xs k).map (·.2)):=by
 induction r with
 |nil=>exact True.intro
 |@cons p q ps qs h t ih=>
  obtain ⟨h1,_,h2⟩:=h
  by_cases e:p.1=k
  ·have e':q.1=k:=h1.symm.trans e
   have b:atKey (q::qs) k=some q.2:=by simp [atKey,List.find?_cons,e']
   rw [zEB e,b];exact h2
  ·have e':¬ q.1=k:=λz=>e (h1.trans z)
   have b:atKey (q::qs) k=atKey qs k:=by simp [atKey,List.find?_cons,e']
   rw [zCv e,b];exact ih
theorem KT.repl {kvs:List (List Key×V)} {xs:List (List Key×Addr×Value)} (r:KT H kvs xs) (k:List Key) (ry:y8 y u) :
  KT H (kvs.map λkv=>if kv.1=k then (kv.1,y) else kv) (xs.map (putAt k u)):=by
 induction r with
 |nil=>exact .nil
 |@cons p q ps qs h t ih=>
  rw [List.map_cons,List.map_cons]
  refine .cons ?_ ih
  obtain ⟨h1,h2,h3⟩:=h
  unfold putAt
  by_cases e:p.1=k
  ·rw [if_pos e,if_pos (h1.symm.trans e)];exact ⟨h1,h2,ry⟩
  ·rw [if_neg e,if_neg (λz=>e (h1.trans z))];exact ⟨h1,h2,h3⟩
theorem KT.put (r:KT H kvs xs) (k:List Key) (hb:H b=some (.tup (k.map kV))) (ry:y8 y u) :
  KT H (zFP kvs k y) (storedH xs k b u):=by
 have e:(kvs.any λkv=>decide (kv.1=k))=(atKey xs k).isSome:=by
  rw [zGA,(r.val k).isSome_eq,Option.isSome_map]
 unfold zFP storedH
 rw [e]
 by_cases q:(atKey xs k).isSome=true
 ·rw [if_pos q,if_pos q];exact r.repl k ry
 ·rw [if_neg q,if_neg q];exact Paired.snoc r ⟨rfl,hb,ry⟩
theorem KT.keeps (r:KT H kvs xs) (ht:∀ b ys,H b=some (.tup ys)->H' b=some (.tup ys)):KT H' kvs xs:=
 Paired.mapP r λ_ _ z=>⟨z.1,ht _ _ z.2.1,z.2.2⟩
section
variable {P:Program} {w:World} {H:Hp} {h:Heap} {a:Addr}
theorem zSS (ok:HOk P w H h) (e:Rd H a u):zAI P w H h a u:=e.ok ok
theorem zJq {kvs:List (Key×V)} (ok:HOk P w H h) (e:Rd H a (.dK kvs)):kvs.length<=sizeLine/\(a == sysModules)=false/\∃ vs,KV kvs vs/\h.DictOf (yP P w) a vs:=
 show zAI P w H h a (.dK kvs) from zSS ok e
theorem zPu {kvs:List (Key×V)} (ok:HOk P w H h) (e:H a=some (.dK kvs)):kvs.length<=sizeLine/\(a == sysModules)=false/\∃ vs,KV kvs vs/\h.DictOf (yP P w) a vs:=zJq ok (.inl e)
theorem zDu {ks:List Key} (ok:HOk P w H h) (e:H a=some (.tup (ks.map kV))):(tupleKind (yP P w)).is h ks a:=by
 obtain ⟨_,its,r,o,h1,h2,n,h3,_⟩:=(show zAI P w H h a (.tup (ks.map kV)) from ok a _ e)
 exact ⟨o,its.toArray,n,h1,h2,h3,by simpa using zG3 r⟩
theorem zJr {kvs:List (List Key×V)} (ok:HOk P w H h) (e:Rd H a (.dT kvs)):kvs.length<=sizeLine/\(a == sysModules)=false /\
  ∃ xs,KT H kvs xs/\h.DictOfH (tupleKind (yP P w)) a xs:=by
 obtain ⟨z,y,xs,r,o,es,ep,h1,h2,h3,h4,h5⟩:=(show zAI P w H h a (.dT kvs) from zSS ok e)
 refine ⟨z,y,xs,r,o,es,ep,h1,h2,h3,h4,λx hx=>?_,h5⟩
 have all:∀ {l:List (List Key×V)} {m:List (List Key×Addr×Value)},KT H l m->∀ x∈m,(tupleKind (yP P w)).is h x.1 x.2.1:=by
  intro l m q
  induction q with
  |nil=>intro x hx;exact nomatch hx
  |@cons p q ps qs hq t ih=>
   intro x hx
   rcases List.mem_cons.mp hx with e|hx
   ·subst e
    exact zDu ok (by rw [<- hq.1];exact hq.2.1)
   ·exact ih x hx
 exact all r x hx
theorem zPv {kvs:List (List Key×V)} (ok:HOk P w H h) (e:H a=some (.dT kvs)):kvs.length<=sizeLine/\(a == sysModules)=false /\
  ∃ xs,KT H kvs xs/\h.DictOfH (tupleKind (yP P w)) a xs:=zJr ok (.inl e)
end
def zFQ (H:Hp) (a:Addr) (y:V) (r:Option V):Prop:=
 (∃ kvs k,Rd H a (.dK kvs)/\y=kV k/\r=zBH kvs k)\/∃ kvs k b,Rd H a (.dT kvs)/\y = .ref b/\H b=some (.tup (k.map kV))/\r=zBH kvs k
def zM4 (H:Hp) (a:Addr) (y v:V) (H':Hp):Prop:=
 (∃ kvs k,H a=some (.dK kvs)/\y=kV k/\kvs.length<sizeLine/\H'=upd H a (.dK (zFP kvs k v))) \/
 ∃ kvs k b,H a=some (.dT kvs)/\y = .ref b/\H b=some (.tup (k.map kV))/\kvs.length<sizeLine/\H'=upd H a (.dT (zFP kvs k v))
theorem zFQ.k {H:Hp} {a:Addr} {kvs:List (Key×V)} {k:Key} (e:H a=some (.dK kvs)):zFQ H a (kV k) (zBH kvs k):=.inl ⟨kvs,k,.inl e,rfl,rfl⟩
theorem zFQ.t {k:List Key} (e:H a=some (.dT kvs)) (eb:H b=some (.tup (k.map kV))):zFQ H a (.ref b) (zBH kvs k):=.inr ⟨kvs,k,b,.inl e,rfl,eb,rfl⟩
theorem zM4.k {H:Hp} {a:Addr} {kvs:List (Key×V)} {k:Key} {v:V} (e:H a=some (.dK kvs)) (hl:kvs.length<sizeLine):zM4 H a (kV k) v (upd H a (.dK (zFP kvs k v))):=.inl ⟨kvs,k,e,rfl,hl,rfl⟩
theorem zM4.t {kvs:List (List Key×V)} {k:List Key} (e:H a=some (.dT kvs)) (eb:H b=some (.tup (k.map kV))) (hl:kvs.length<sizeLine) :
  zM4 H a (.ref b) v (upd H a (.dT (zFP kvs k v))):=.inr ⟨kvs,k,b,e,rfl,eb,hl,rfl⟩
section
variable {X:Cx} {pins:PNt} {σ:St} {H:Hp} {s:Shared} {a:Addr} {y v:V} {u r:Value} {o:Option V} {A:Around} {E:VSt}
theorem Inv.big (I:Inv X pins σ H s):sysModules<s.heap.objs.size:=by
 have h:mainGlobals<s.heap.objs.size:=(I.mod.glob.keeps I.bk).lt
 exact Nat.lt_trans (by decide) h
theorem zKl {Q:VSt} (hu:A.units+1<cLine) (I:Inv X pins σ H s) (g:zFQ H a y (some v)) (ry:y8 y u) (h:∀ w' s',Inv X pins σ H s'->y8 v w'->Q w' s') :
  wpAny (model X.prog X.w) A (getItem (.ref a) u) Q E s:=by
 rcases g with ⟨kvs,k,e,ey,l⟩|⟨kvs,k,b,e,ey,eb,l⟩
 ·subst ey
  obtain ⟨z,hd,vs,rel,dd⟩:=zJq I.hok e
  obtain ⟨w',hw,rw'⟩:=zHm.some_of (v:=v) (o:=valueAt vs k) (by rw [l];exact rel.val k)
  exact wpAny_getItem_of (zH1 ry) dd.mapOf hw (h w' _ (I.tok _) rw')
 ·subst ey
  cases (show u=Value.ref b from ry)
  obtain ⟨z,hd,xs,rel,dd⟩:=zJr I.hok e
  obtain ⟨w',hw,rw'⟩:=zHm.some_of (v:=v) (o:=(atKey xs k).map (·.2)) (by rw [l];exact rel.val k)
  obtain ⟨p,hp,hp2⟩:=Option.map_eq_some_iff.mp hw
  refine wpAny_getItem_heap (tupleKind_room_in1 hu) (zDu I.hok eb) dd hp ?_
  rw [hp2]
  exact h w' _ (I.tok _) rw'
theorem d_in {Q:VSt} (hu:A.units+1<cLine) (I:Inv X pins σ H s) (g:zFQ H a y o) (ry:y8 y u) (h:∀ s',Inv X pins σ H s'->Q (.bool o.isSome) s') :
  wpAny (model X.prog X.w) A (compareOp .In u (.ref a)) Q E s:=by
 rcases g with ⟨kvs,k,e,ey,l⟩|⟨kvs,k,b,e,ey,eb,l⟩
 ·subst ey
  obtain ⟨z,hd,vs,rel,dd⟩:=zJq I.hok e
  refine wpAny_in_of (zH1 ry) hd dd.mapOf ?_
  rw [<- (rel.val k).isSome_eq,<- l]
  exact h _ (I.tok _)
 ·subst ey
  cases (show u=Value.ref b from ry)
  obtain ⟨z,hd,xs,rel,dd⟩:=zJr I.hok e
  refine wpAny_in_heap (tupleKind_room_in1 hu) (zDu I.hok eb) hd dd ?_
  have q:=(rel.val k).isSome_eq
  rw [Option.isSome_map] at q
  rw [<- q,<- l]
  exact h _ (I.tok _)
theorem zPw {Q:VSt} (hu:A.units+1<cLine) (I:Inv X pins σ H s) (g:zFQ H a y o) (ry:y8 y u) (h:∀ s',Inv X pins σ H s'->Q (.bool (!o.isSome)) s') :
  wpAny (model X.prog X.w) A (compareOp .NotIn u (.ref a)) Q E s:=by
 rcases g with ⟨kvs,k,e,ey,l⟩|⟨kvs,k,b,e,ey,eb,l⟩
 ·subst ey
  obtain ⟨z,hd,vs,rel,dd⟩:=zJq I.hok e
  refine wpAny_notIn_of (zH1 ry) hd dd.mapOf ?_
  rw [<- (rel.val k).isSome_eq,<- l]
  exact h _ (I.tok _)
 ·subst ey
  cases (show u=Value.ref b from ry)
  obtain ⟨z,hd,xs,rel,dd⟩:=zJr I.hok e
  refine wpAny_notIn_heap (tupleKind_room_in1 hu) (zDu I.hok eb) hd dd ?_
  have q:=(rel.val k).isSome_eq
  rw [Option.isSome_map] at q
  rw [<- q,<- l]
  exact h _ (I.tok _)
theorem zEc {h':Heap} {t':Nat} (I:Inv X pins σ H s) (mu:Mut (H a)) (hs:Heap.SameBut a s.heap h') (he:∃ q,h'.get? a=some q) (new:zAI X.prog X.w (upd H a ob) h' a ob) :
  Inv X pins σ (upd H a ob) { s with heap:=h',toks:=t' }:=
 I.write (x:=a) (e:=a) mu (.inl rfl) (λb q hb z=>(hs.2 b hb).trans z) he new
theorem zOp {h':Heap} {kvs:List (Key×V)} (z:kvs.length<=sizeLine) (hd:(a == sysModules)=false) (rel:KV kvs vs) (dd:h'.DictOf (yP P w) a vs) :
  zAI P w H' h' a (.dK kvs):=⟨z,hd,vs,rel,dd⟩
theorem zKm {H':Hp} {Q:Unit->Shared->Prop} (hu:A.units+1<cLine) (I:Inv X pins σ H s) (g:zM4 H a y v H') (ry:y8 y u) (rv:y8 v r) (h:∀ s',Inv X pins σ H' s'->Q () s') :
  wpAny (model X.prog X.w) A (setItem (.ref a) u r) Q E s:=by
 rcases g with ⟨kvs,k,e,ey,l,eH⟩|⟨kvs,k,b,e,ey,eb,l,eH⟩
 ·subst ey eH
  obtain ⟨z,hd,vs,rel,dd⟩:=zPu I.hok e
  have hz:vs.length<=sizeLine:=by rw [<- rel.length];exact z
  have hl:(zFP kvs k v).length<=sizeLine:=by have:=zBL kvs k v;omega
  refine wpAny_setItem_pairs (hsz:=hz) (zH1 ry) dd λh' dd' hs=>h _ ?_
  have he:∃ q,h'.get? a=some q:=let ⟨q,_,_,hq,_⟩:=dd';⟨q,hq⟩
  exact zEc I (by rw [e];exact True.intro) hs he (zOp hl hd (rel.put k rv) dd')
 ·subst ey eH
  cases (show u=Value.ref b from ry)
  obtain ⟨z,hd,xs,rel,dd⟩:=zPv I.hok e
  have hz:xs.length<=sizeLine:=by rw [<- Paired.length rel];exact z
  have hl:(zFP kvs k v).length<=sizeLine:=by have:=zBL kvs k v;omega
  refine wpAny_setItem_heap (hsz:=hz) (tupleKind_room_in1 hu) (zDu I.hok eb) dd λh' dd' hs=>h _ ?_
  obtain ⟨q,es,ep,hq,h2,h3,h4,_,h5⟩:=dd'
  refine zEc I (by rw [e];exact True.intro) hs ⟨q,hq⟩ ⟨hl,hd,_,(rel.put k eb rv).keeps λc ys ec=>?_,q,es,ep,hq,h2,h3,h4,h5⟩
  rw [zY (zPa ec e (λz=>nomatch z))]
  exact ec
end
section
variable {X:Cx} {pins:PNt} {σ:St} {H:Hp} {s:Shared} {a:Addr} {kvs:List (Key×V)} {k:Key} {u:Value} {A:Around} {E:VSt}
end
def NoSl (i:Expr):Prop:=∀ ov iv,subscripted i false ov iv=operate [ov,iv] (getItem ov iv)
theorem zPx {prog:Program} {w:World} {A:Around} {E:VSt} {s:Shared} {env:Env} {value slice:Expr} {pos:Pos} {T id:String} {Q:VSt}
  (hl:typeLookup (.type T) "__getitem__" = pure (some (.builtin id))) (hs:NoSl slice)
  (h:wpAny (model prog w) A (eval value env) (λo s₁=>wpAny (model prog w) A (eval slice env) (λi s₂=>s₂.TypeIs o T/\wpAny (model prog w) A (getItem o i) Q E s₂) E s₁) E s) :
  wpAny (model prog w) A (eval (.Subscript value slice pos) env) Q E s:=by
 refine Subscript_ (wpAny_mono h (λo s₁ h₁=>wpAny_mono h₁ (λi s₂ h₂=>?_) λ_ _ x=>x) λ_ _ x=>x)
 obtain ⟨hT,h₂⟩:=h₂
 unfold subscriptTail
 refine wpAny_bind ?_
 rw [getitemInPython_of_ne hT.not_modules]
 refine wpAny_bind (wpAny_specialOf hT hl ?_)
 have fin:wpAny (model prog w) A (subscripted slice false o i) (λr s₃=>wpAny (model prog w) A (letTemporaryGo value o r >>= λ_=>pure r) Q E s₃) E s₂:=by
  rw [hs o i]
  exact wpAny_operating (wpAny_mono h₂ (λr s₃ h₃=>wpAny_bind (wpAny_letTemporaryGo (wpAny_pure h₃))) λ_ _ x=>x)
 first
  |exact wpAny_pure (wpAny_bind fin)
  |exact wpAny_bind (wpAny_pure (wpAny_bind fin))
  |exact wpAny_bind fin
theorem zH2 {s:Shared} (I:Inv X pins σ H s) (g:zFQ H a y o):s.TypeIs (.ref a) "dict":=by
 rcases g with ⟨kvs,k,e,_,_⟩|⟨kvs,k,b,e,_,_,_⟩
 ·obtain ⟨_,_,vs,_,dd⟩:=zJq I.hok e
  exact dd.typeIs
 ·obtain ⟨_,_,xs,_,dd⟩:=zJr I.hok e
  exact dd.typeIs
def tDGet (td ty:TE):TE:=λσ H Q=>td σ H λx H1=>ty σ H1 λy H2=>∃ a v,x = .ref a/\zFQ H2 a y (some v)/\Q v H2
def tDIn (ty td:TE):TE:=λσ H Q=>ty σ H λy H1=>td σ H1 λx H2=>∃ a o,x = .ref a/\zFQ H2 a y o/\Q (.bl o.isSome) H2
def zPy (ty td:TE):TE:=λσ H Q=>ty σ H λy H1=>td σ H1 λx H2=>∃ a o,x = .ref a/\zFQ H2 a y o/\Q (.bl (!o.isSome)) H2
def sDPut (td ty tv:TE):TS:=λD σ H=>tv σ H λv H1=>td σ H1 λx H2=>ty σ H2 λy H3=>∃ a H4,x = .ref a/\zM4 H3 a y v H4/\D.nx σ H4
section
variable {X:Cx} {o i e value:Expr} {pos pos' tpos:Pos} {td ty tv:TE}
theorem zKn (hu:X.A.units+1<cLine) (ho:PE X o td) (hi:PE X i ty) (hs:NoSl i):PE X (.Subscript o i pos) (tDGet td ty):=by
 intro pins s σ H Q I h
 refine zPx PySem.F.slot_dict_getitem.lookup hs (thn (ho pins s σ H _ I h) λu s1 ⟨x,H1,I1,rx,q1⟩=>thn (hi pins s1 σ H1 _ I1 q1) λiv s2 zz=>?_)
 obtain ⟨y,H2,I2,ry,a,v,ex,g,q2⟩:=zz
 subst ex
 obtain rfl:u=Value.ref a:=rx
 exact ⟨zH2 I2 g,zKl hu I2 g ry λw' s3 I3 rw'=>⟨v,H2,I3,rw',q2⟩⟩
theorem zOq (hu:X.A.units+1<cLine) (hi:PE X i ty) (ho:PE X o td):PC X .In i o (tDIn ty td):=by
 intro pins s σ H Q I h
 refine thn (hi pins s σ H _ I h) λiv s1 ⟨y,H1,I1,ry,q1⟩=>thn (ho pins s1 σ H1 _ I1 q1) λu s2 zz=>?_
 obtain ⟨x,H2,I2,rx,a,ov,ex,g,q2⟩:=zz
 subst ex
 obtain rfl:u=Value.ref a:=rx
 exact d_in hu I2 g ry λs3 I3=>⟨.bl ov.isSome,H2,I3,rfl,q2⟩
theorem zKo (hu:X.A.units+1<cLine) (hi:PE X i ty) (ho:PE X o td):PC X .NotIn i o (zPy ty td):=by
 intro pins s σ H Q I h
 refine thn (hi pins s σ H _ I h) λiv s1 ⟨y,H1,I1,ry,q1⟩=>thn (ho pins s1 σ H1 _ I1 q1) λu s2 zz=>?_
 obtain ⟨x,H2,I2,rx,a,ov,ex,g,q2⟩:=zz
 subst ex
 obtain rfl:u=Value.ref a:=rx
 exact zPw hu I2 g ry λs3 I3=>⟨.bl (!ov.isSome),H2,I3,rfl,q2⟩
theorem zKp (hu:X.A.units+1<cLine) (ho:PE X o td) (hi:PE X i ty) (hv:PE X value tv) (hs:swapsWith value (some (.Subscript o i pos')) pos.line X.env=pure false) :
  PS X (.Assign [.Subscript o i pos'] value pos) (sDPut td ty tv):=by
 intro pins s σ H D I h
 refine wpAny_Assign_Subscript (thn (hv pins s σ H _ I h) λr s1 ⟨v,H1,I1,rv,q1⟩=>thn (ho pins s1 σ H1 _ I1 q1) λu s2 ⟨x,H2,I2,rx,q2⟩=>thn (hi pins s2 σ H2 _ I2 q2) λiv s3 ⟨y,H3,I3,ry,a,H4,ex,g,q3⟩=>?_) hs
 subst ex
 obtain rfl:u=Value.ref a:=rx
 exact zKm hu I3 g ry rv λs4 I4=>⟨σ,H4,I4,q3⟩
end
theorem zNG (h:Heap) (hb:sysModules<h.objs.size):zAI P w H (h.push { cls:=.type "dict",data:=.dict #[] }) h.objs.size (.dK []):=
 ⟨Nat.zero_le _,beq_eq_false_iff_ne.mpr (Ne.symm (Nat.ne_of_lt hb)),[],.nil,Heap.DictOf.new h⟩
theorem zNH (h:Heap) (hb:sysModules<h.objs.size):zAI P w H (h.push { cls:=.type "dict",data:=.dict #[] }) h.objs.size (.dT []):=
 ⟨Nat.zero_le _,beq_eq_false_iff_ne.mpr (Ne.symm (Nat.ne_of_lt hb)),[],.nil,_,#[],0,Heap.get?_push_size _ rfl,⟨rfl,rfl,rfl⟩,rfl,rfl,List.nodup_nil⟩
def zST:TE:=λ_ H Q=>∀ p,H p=none->Q (.ref p) (upd H p (.dK []))
section
variable {X:Cx} {pos:Pos}
theorem zIt:PE X (.Dict [] [] pos) zST:=λpins s σ H Q I h=>
 wpAny_Dict_empty ⟨.ref s.heap.objs.size,_,I.laid (a:=s.heap.objs.size) (o:=.dK []) (t':=s.toks) (λ_ _ q=>Heap.get?_push_of_some _ q) (Nat.le_refl _) (zNG s.heap I.big),rfl,h _ (I.hok.fresh (Nat.le_refl _))⟩
end
section
variable {X:Cx} {pins:PNt} {σ:St} {H:Hp} {s:Shared} {a:Addr} {y d:V} {u r:Value} {o:Option V} {A:Around} {E:VSt}
end
section
variable {X:Cx} {o e f:Expr} {apos cpos:Pos} {td ty tx:TE}
end
section
variable {X:Cx} {pins:PNt} {σ:St} {H:Hp} {s:Shared} {a:Addr} {kvs:List (Key×V)} {A:Around} {E:VSt}
end
section
variable {X:Cx} {pins:PNt} {σ:St} {H:Hp} {s:Shared} {a:Addr} {y:V} {u:Value} {A:Around} {E:VSt}
end
end L2
namespace Att
open PySem PySem.W PySem.Calls PyProof.Rows
theorem zEd:∀ (ns:List Int) (vs:List Value),WellAll P h vs (ns.map WData.int)->IntsAre vs ns:=by
 intro ns
 induction ns with
 |nil=>
  intro vs w
  rw [List.map_nil] at w
  cases w
  exact .nil
 |cons n ns ih=>
  intro vs w
  rw [List.map_cons] at w
  cases w with
  |cons a b=>
   cases a
   exact .cons _ _ (ih _ b)
theorem zKq {l:OpenLaw} (hn:l.most=some n) {h:Heap} (hpre:l.row.toRowW.claim.pre args=true) (hwl:WellAll P h vals args) :
  ∃ a vs ns,vals = [Value.ref a]/\args = [WData.list (ns.map WData.int)]/\h.get? a=some { cls:=.type "list",data:=.seq vs.toArray }/\IntsAre vs ns/\ns.length<=n:=by
 have hsh:WShape.hasAll [] args [.list .int]=true:=(pre_splitW hpre).1
 have hc:l.pre.holds [] { args:=args }=true:=(pre_splitW hpre).2
 obtain ⟨d,r,rfl,h1,h2⟩:=hasAllW_cons hsh
 obtain rfl:=hasAllW_nil h2
 obtain ⟨xs,rfl,h3⟩:=hasW_list h1
 obtain ⟨ns,rfl⟩:=items_int h3
 have hlen:ns.length<=n:=by
  unfold OpenLaw.pre at hc
  have h4:(WTm.not (.lt (.lit (.int (n:Int))) (.len (.arg 0)))).holds [] { args:=[.list (ns.map .int)] }=true:=by
   have h4:=(holds_andW hc).1
   rw [hn] at h4
   exact h4
  have h5:=condW_of h4 (w_not (w_lt w_lit (w_len_list (w_arg rfl))))
  rw [List.length_map] at h5
  refine Nat.le_of_not_lt λq=>?_
  have q':(n:Int)<((ns.length:Nat):Int):=by omega
  first
   |(rw [decide_eq_true q'] at h5;exact absurd h5 (by decide))
   |(simp at h5;omega)
 cases hwl with
 |cons w1 w2=>
  cases w2
  cases w1 with
  |list ho hall=>exact ⟨_,_,ns,rfl,rfl,ho,zEd ns _ hall,hlen⟩
theorem zKr (l:OpenLaw) (args:List WData):l.row.toRowW.claim.post args (.bool true) args=true:=
 postW_of (r:=l.row.toRowW) (X:=(true == true))
  (show WShape.has [] (.bool true) .bool=true by first|rfl|decide|simp [WShape.has,WShape.arms,WShape.armsAll])
  (show (WTm.eq .res (.lit (.bool true))).value [] { args:=args,res:=some (.bool true),after:=args }=some (.bool (true == true)) from w_eq_bool (w_res rfl) w_lit) rfl
theorem attach_call {l:OpenLaw} {XP:(Str->Option Value)->Heap->Prop} {YP:World->Heap->Prop} {d:DefRec} (hn:l.most=some n) (hdf:d.params.defaults = []) (call:∀ (w:World) (s₀ s₁:Shared) (mg mb:MGt) (fa:Addr) (o:Obj) (pm cd doc:Value) (a:Addr) (vs:List Value) (ns:List Int),
   Ground q loose [] XP w s₀ mg mb s₁.heap->YP w s₁.heap ->
   s₁.heap.get? fa=some o->o.data = .func (docDef d.name d.params d.body d.scope pm cd doc)->s₁.heap.CodeRec cd d.name->mg d.name=some (.ref fa) ->
   s₁.heap.get? a=some { cls:=.type "list",data:=.seq vs.toArray }->IntsAre vs ns->ns.length<=n->s₁.gens = #[] ->
   codeAny (model l.prog w) callerA (.call (.ref fa) ⟨[.ref a],[]⟩) (λr s'=>r = .ok (.ret (.bool true))/\OldK s₁.heap s'.heap/\s'.os=s₁.os/\AllBare s'.gens) s₁) :
  WalkO q loose XP YP l.row.toRowW d [] (λf vs=>PySem.call f vs):=by
 intro w s₀ s₁ mg mb G Y fa o pm cd doc dV kV ho hd hcd hD hmg hg args vals as hpre hlay hrd hwl hlo
 obtain rfl:dV = .none:=Dflts.none hD hdf
 obtain rfl:kV = .none:=Dflts.noKw hD
 obtain ⟨a,vs,ns,rfl,rfl,hobj,hints,hlen⟩:=zKq hn hpre hwl
 refine enter_call (codeAny_mono (call w s₀ s₁ mg mb fa o pm cd doc a vs ns G Y ho (fd_plain hd) hcd hmg hobj hints hlen hg) λr s' hq=>?_)
 obtain ⟨rfl,h2,h3,h4⟩:=hq
 exact ⟨.inl ⟨.bool true,.bool true,[],rfl,λ_=>rfl,.bool true,zKr l _,λ_=>⟨List.Pairwise.nil,λ_ hm=>(nomatch hm)⟩⟩,h2,h3,h4⟩
section
variable {prog:Program} {w:World} {A:Around} {E:VSt} {s:Shared} {K:Frag}
end
end Att
namespace L2
open PySem PySem.Spec PyProof.Rows
theorem zG4:∀ {vs:List Value} {ns:List Int},IntsAre vs ns->yI (ns.map V.int) vs
 |_,_,.nil=>.nil
 |_,_,.cons n t h=>.cons ⟨t,rfl⟩ (zG4 h)
def Only (H:Hp):Prop:=∀ b,H b=none\/∃ o xs,H b=some (.frz o (.lst xs))
theorem zNI {K:Fg} {mg mb:MGt} {s₁:Shared} {vs:List Value} {ns:List Int} (KX:K.In s₁.heap) (hns:s₁.heap.Ns mainGlobals mg) (hb:s₁.heap.Ns builtinsNs mb) (hbb:∀ x:Str,x ≠ "__name__"->mb x=bootBuiltins x) (hlim:s₁.heap.NoLimit) (hg:s₁.gens = #[]) (ha:s₁.heap.get? a=some { cls:=.type "list",data:=.seq vs.toArray }) (hi:IntsAre vs ns) (hl:ns.length<=sizeLine) (hr:zBn k callerA) (F:∀ base:Heap,K.In base->base.Ns mainGlobals mg->zF8 P w K mg base CX k fa fd [x] sp) (hbind:∀ (s:Shared) (u:Value),BindsTo s fd ⟨[u],[]⟩ [(x,u)]) (hsp:∀ H:Hp,Only H->SqL K H a (ns.map V.int)->sp [.ref a] H (λv _=>v = .bl true) λ_ _ _=>False) (hCX:∀ H e s',CX [] H s₁ (λ_ _ _=>False) e s'->False) :
  codeAny (model P w) callerA (.call (.ref fa) ⟨[.ref a],[]⟩) (λr s'=>r = .ok (.ret (.bool true))/\OldK s₁.heap s'.heap/\s'.os=s₁.os/\AllBare s'.gens) s₁:=by
 have rv:=zG4 hi
 have lenV:=hi.length
 -- from an abstract heap in which nothing but the script may be tracked
 have core:∀ H:Hp,Only H->SqL K H a (ns.map V.int)->HOk P w H s₁.heap->(∀ b,H b≠none->b=a)->(H a≠none->K.lookup a=none) ->
   codeAny (model P w) callerA (.call (.ref fa) ⟨[.ref a],[]⟩) (λr s'=>r = .ok (.ret (.bool true))/\OldK s₁.heap s'.heap/\s'.os=s₁.os/\AllBare s'.gens) s₁:=by
  intro H hO hS hok hA hK
  have base_of:∀ {b:Addr} {o:Obj},s₁.heap.get? b=some o->H b=none->(zM6 s₁.heap H).get? b=some o:=λe n=>zM7 e n
  have noA:∀ {b:Addr} {o:Obj} {es:Array DictEntry} {ep:Nat},s₁.heap.get? b=some o->o.data = .dict es ep->H b=none:=λ{b o es ep} e d=>by
   cases q:H b with
   |none=>rfl
   |some u=>
    have e':b=a:=hA b (by rw [q];simp)
    subst e'
    rw [ha] at e;cases e
    have d':Data.seq vs.toArray _=Data.dict es ep:=d
    cases d'
  have nsK:∀ {b:Addr} {m:MGt},s₁.heap.Ns b m->(zM6 s₁.heap H).Ns b m:=λ{b m} ⟨o,es,ep,e,d,r⟩=>⟨o,es,ep,base_of e (noA e d),d,r⟩
  have hKb:K.In (zM6 s₁.heap H):=λb o e=>base_of (KX b o e) (by
   cases q:H b with
   |none=>rfl
   |some u=>
    have e':b=a:=hA b (by rw [q];simp)
    subst e'
    rw [hK (by rw [q];simp)] at e;cases e)
  have hM:Mod K mg (zM6 s₁.heap H):=⟨hKb,nsK hns,⟨mb,nsK hb,hbb⟩,let ⟨mc,h1,h2⟩:=hlim;⟨mc,nsK h1,h2⟩⟩
  have e0:Env0 P w K mg (zM6 s₁.heap H) callerA [] s₁ H:=⟨rfl,hM,λb o e=>zPb e,Nat.le_of_eq (zKR _ _),trivial,λb hb=>absurd (show b∈([]:List Addr) from hb) (by simp),hok,.of_eq hg⟩
  refine codeAny_mono ((F _ hKb (nsK hns)).run callerA [] s₁ H ⟨[.ref a],[]⟩ [.ref a] [.ref a] _ _ hr e0 (hbind s₁ (.ref a)) (.cons rfl .nil) (hsp H hO hS)) λr s' h=>?_
  cases r with
  |error e=>exact (hCX H e s' h).elim
  |ok fl=>
   cases fl with
   |next=>exact False.elim h
   |brk=>exact False.elim h
   |cont=>exact False.elim h
   |ret u=>
    obtain ⟨v,H',os,bare,un,hok',r',q⟩:=h
    have q':v = .bl true:=q
    subst q'
    obtain rfl:u=Value.bool true:=r'
    refine ⟨rfl,OldK.of_keep λb o e=>?_,os,bare⟩
    cases q:H b with
    |none=>exact un.keep b o e q (by intro z;exact absurd (show b∈([]:List Addr) from z) (by simp)) (by simp)
    |some u=>
     rcases hO b with z|⟨ob,xs,z⟩
     ·rw [q] at z;cases z
     ·have z2:=un.frzs b ob _ z
      obtain ⟨e1,_⟩:=hok b _ z
      obtain ⟨e2,_⟩:=hok' b _ z2
      rw [e] at e1;cases e1
      exact e2
 cases hk:K.lookup a with
 |some o=>
  -- the script is one of the module's own objects
  have e:=KX a o hk
  rw [ha] at e
  cases e
  refine core (λ_=>none) (λ_=>.inl rfl) (.inr ⟨_,vs.toArray,_,hk,rfl,rfl,rfl,by rw [List.size_toArray,lenV];exact hl,by simpa using rv⟩) (λb u z=>by have z':(none:Option HO)=some u:=z;cases z') (λb z=>absurd rfl z) λz=>absurd rfl z
 |none=>
  refine core (λb=>if b=a then some (.frz { cls:=.type "list",data:=.seq vs.toArray } (.lst (ns.map V.int))) else none) (λb=>?_) (.inl (.inr ⟨{ cls:=.type "list",data:=.seq vs.toArray },if_pos rfl⟩)) (λb u z=>?_) (λb z=>?_) λ_=>hk
  ·by_cases hb:b=a
   ·exact .inr ⟨_,_,if_pos hb⟩
   ·exact .inl (if_neg hb)
  ·by_cases hb:b=a
   ·have z':=(if_pos hb).symm.trans z
    cases z'
    subst hb
    exact ⟨ha,by rw [List.length_map];exact hl,vs,_,rv,ha⟩
   ·have z':=(if_neg hb).symm.trans z
    cases z'
  ·by_cases hb:b=a
   ·exact hb
   ·exact absurd (if_neg hb) z
end L2
namespace L2
open PySem PySem.Spec PyProof.Rows
theorem zKs {l:PySem.W.OpenLaw} {XP:(Str->Option Value)->Heap->Prop} {YP:World->Heap->Prop} {d:DefRec} {K:Params->Fg} {CX:World->CXT} {sp:World->Sp} (hn:l.most=some n) (hn2:n<=sizeLine) (hdf:d.params.defaults = []) (hr:zBn k callerA) (hY:∀ (w:World) (h:Heap),YP w h->(K w.params).In h) (F:∀ (w:World) (mg:MGt) (fa:Addr) (h:Heap),(K w.params).In h->h.Ns mainGlobals mg->mg d.name=some (.ref fa) ->
   ∃ fd:FuncData,(∀ (s:Shared) (u:Value),BindsTo s fd ⟨[u],[]⟩ [(x,u)]) /\
    ∀ base:Heap,(K w.params).In base->base.Ns mainGlobals mg->zF8 l.prog w (K w.params) mg base (CX w) k fa fd [x] (sp w)) (hsp:∀ (w:World) (H:Hp) (a:Addr) (ns:List Int),ns.length<=n->Only H->SqL (K w.params) H a (ns.map V.int)->sp w [.ref a] H (λv _=>v = .bl true) λ_ _ _=>False) (hCX:∀ (w:World) (H:Hp) (s:Shared) (e:Value) (s':Shared),CX w [] H s (λ_ _ _=>False) e s'->False) :
  PySem.W.WalkO q loose XP YP l.row.toRowW d [] (λf vs=>PySem.call f vs):=by
 refine Att.attach_call hn hdf λw s₀ s₁ mg mb fa o pm cd doc a vs ns G Y ho hd hcd hmg hobj hints hlen hg=>?_
 have KX:=hY w _ Y
 obtain ⟨fd,hb,hF⟩:=F w mg fa _ KX G.T.g hmg
 exact zNI KX G.T.g G.T.b G.T.builtins G.T.nolimit hg hobj hints (Nat.le_trans hlen hn2) hr hF hb (λH hO hS=>hsp w H a ns hlen hO hS) λH e s'=>hCX w H s₁ e s'
end L2
namespace L2
open PySem PySem.Spec PyProof.Rows
abbrev CX0:CXT:=λ_ _ _ _ _ _=>False
abbrev E0:XK:=λ_ _ _=>False
theorem zPz:zDr CX0 X E0:=λ_ _ _ _ _ _ _ h=>h.elim
structure Fun (K:Fg) (x qual:Str) (st:Stmt) (f:Addr) (fd:FuncData):Prop where
 ex:∃ (oc:Value) (od:Option Addr) (kV doc pm:Value) (an:Option Addr) (cdv ct:Value) (osl:Array (Option Value)),
  fd=PySem.W.fnOf x qual (zCY st) (ye st) (zI st) .none kV doc pm an cdv ct/\K.lookup f=some ⟨oc,od,.func fd,osl⟩/\PySem.W.codeIn K cdv qual=true
 kp:PySem.W.keepIn K (.ref f)=true
section
variable {P:Program} {w:World} {K:Fg} {mg:MGt} {base:Heap}
theorem Fun.ok {x qual:Str} {st:Stmt} {f:Addr} {fd:FuncData} {N ps:List Str} {k:Nat} {sp:Sp} (F:Fun K x qual st f fd) (S:zZ N ps (zI st)) (len:∀ vs H Q E,sp vs H Q E->vs.length=ps.length)
  (hbody:∀ (cdv:Value) (A:Around) (outer:List Env) (s:Shared) (H:Hp) (vs:List V) (Q:VK) (E:XK),zBn k (A.deeper (envOfC qual (zI st) s.heap.objs.size f cdv))->sp vs H Q E ->
   ∃ t,PSs (zHy CX0 P w K mg base N qual (zI st) f cdv A outer s H E).nox (ye st) t/\t { nx:=λ_ H'=>Q .non H',rt:=Q } (zCf N vs) H):zF8 P w K mg base CX0 (k+1) f fd ps sp:=by
 obtain ⟨oc,od,kV,doc,pm,an,cdv,ct,osl,rfl,lk,hcd⟩:=F.ex
 refine zPk lk hcd S len λA outer s H vs Q E hr hsp=>?_
 obtain ⟨t,h,q⟩:=hbody cdv A outer s H vs Q E hr hsp
 exact ⟨t,h.nox,q⟩
theorem Fun.binds {x qual:Str} {st:Stmt} {f:Addr} {fd:FuncData} {ps:List Str} (F:Fun K x qual st f fd)
  (h:∀ (kV doc pm:Value) (an:Option Addr) (cdv ct:Value) (us:List Value),us.length=ps.length->bindArgs (PySem.W.fnOf x qual (zCY st) (ye st) (zI st) .none kV doc pm an cdv ct) ⟨us,[]⟩=pure (ps.zip us)):zD8 K fd ps []:=by
 obtain ⟨oc,od,kV,doc,pm,an,cdv,ct,osl,rfl,lk,hcd⟩:=F.ex
 exact .all (h kV doc pm an cdv ct)
theorem zOr {x qual:Str} {st:Stmt} {f:Addr} {oc:Value} {od an:Option Addr} {osl:Array (Option Value)} {kV doc pm cdv ct:Value} (l:K.lookup f=some ⟨oc,od,.func (PySem.W.fnOf x qual (zCY st) (ye st) (zI st) .none kV doc pm an cdv ct),osl⟩)
  (c:PySem.W.codeIn K cdv qual=true) (k:PySem.W.keepIn K (.ref f)=true):Fun K x qual st f (PySem.W.fnOf x qual (zCY st) (ye st) (zI st) .none kV doc pm an cdv ct):=⟨⟨oc,od,kV,doc,pm,an,cdv,ct,osl,rfl,l,c⟩,k⟩
end
theorem zKt {A:Around} (hr:zBn k A):A.units+1<cLine:=Nat.lt_of_le_of_lt (Nat.add_le_add_left (by decide:1<=64) _) hr.units
theorem zKu (h:n<=1000):n<sizeLine:=Nat.lt_of_le_of_lt h (by decide)
section
variable {X:Cx}
theorem pv (i:Nat) (hN:X.N[i]?=some x:=by rfl) (hv:Vis X.env.scope x:=by first|exact Or.inl rfl|exact Or.inr (Or.inl rfl)|exact Or.inr (Or.inr rfl)) (hd:(x == ("__debug__" : Str))=false:=by decide) (hcd:(x == ("__classdict__" : Str))=false:=by decide):PE X (.Name x pos) (zDq i):=zOg hN hv hd hcd
end
def zu (H H':Hp):Prop:=∀ b o,H b=some o->H' b=some o
theorem zu.refl (H:Hp):zu H H:=λ_ _ h=>h
theorem zu.trans (a:zu H H1) (b:zu H1 H2):zu H H2:=λc o h=>b c o (a c o h)
theorem zu.free (e:zu H H') (h:H' l=Option.none):H l=Option.none:=by
 cases q:H l with
 |none=>rfl
 |some o=>
  rw [e l o q] at h
  cases h
theorem zu.seq {K:Fg} {H H':Hp} {a:Addr} {xs:List V} (e:zu H H') (h:SqL K H a xs):SqL K H' a xs:=by
 rcases h with (h|⟨o,h⟩)|h
 ·exact .inl (.inl (e _ _ h))
 ·exact .inl (.inr ⟨o,e _ _ h⟩)
 ·exact .inr h
end L2
namespace L2
open PySem PySem.Spec PyProof.Rows
section
variable {κ:Type} [DecidableEq κ]
end
end L2
namespace RD
open PySem PySem.Spec PyProof.Rows L2
abbrev stE (X:Cx) (e:Expr) (r:List Expr):Prop:=starEach (e::r) X.env=(false,eval e X.env)::starEach r X.env
abbrev zDv (X:Cx) (p:Pos) (l:List Expr):Prop:=(backTo p (starEach l X.env)).any (·.1)=false
abbrev zP0 (X:Cx) (p:Pos) (l:List Expr):Prop:=((backTo p (starEach l X.env)).all (λx=>!x.1) && (backToKw p (keywordEach [] X.env)).all (λx=>x.1.isSome) && decide (l.length+([]:List Keyword).length+(if ([]:List Keyword).isEmpty then 0 else 1)<30))=true
abbrev fnL (X:Cx) (x:Str):Prop:=X.fn x=true\/X.env.scope.names.lookup x=some .local
abbrev bsA (X:Cx) (o:Expr) (f:Str):Prop:=attributeBase o f X.env (eval o X.env)=eval o X.env
abbrev smL (p q:Pos):Prop:=(p.endLine == q.line)=true
abbrev nDb (x:Str):Prop:=(x == ("__debug__" : Str))=false
abbrev zGB (X:Cx) (e:Expr) (o:Option Expr) (p:Pos):Prop:=swapsWith e o p.line X.env=pure false
inductive D where
 |non|bl (b:Bool)|int (i:Int)|str (x:Str)|tup (xs:List D)|lst (xs:List D)
section
variable (K:Fg) (G:Hp)
mutual
def Rep:D->V->Prop
 |.non,v=>v = .non
 |.bl b,v=>v = .bl b
 |.int i,v=>v = .int i
 |.str x,v=>v = .str x
 |.tup ds,v=>∃ a vs,v = .ref a/\G a=some (.tup vs)/\Reps ds vs
 |.lst ds,v=>∃ a vs,v = .ref a/\SqL K G a vs/\Reps ds vs
def Reps:List D->List V->Prop
 | [],vs=>vs = []
 |d::ds,vs=>∃ v r,vs=v::r/\Rep d v/\Reps ds r
end
end
theorem qt {K:Fg} {H H':Hp} {a:Addr} {xs:List V} (e:zu H H') (h:SqT K H a xs):SqT K H' a xs:=by
 rcases h with (h|⟨o,h⟩)|h
 ·exact .inl (.inl (e _ _ h))
 ·exact .inl (.inr ⟨o,e _ _ h⟩)
 ·exact .inr h
mutual
theorem Rep.mono {K:Fg} {G G':Hp} (s:zu G G'):∀ (d:D) (v:V),Rep K G d v->Rep K G' d v
 |.non,_,h=>by simpa [Rep] using h
 |.bl _,_,h=>by simpa [Rep] using h
 |.int _,_,h=>by simpa [Rep] using h
 |.str _,_,h=>by simpa [Rep] using h
 |.tup ds,_,h=>by
  simp only [Rep] at h ⊢
  obtain ⟨a,vs,e,q,r⟩:=h
  exact ⟨a,vs,e,s _ _ q,Reps.mono s ds vs r⟩
 |.lst ds,_,h=>by
  simp only [Rep] at h ⊢
  obtain ⟨a,vs,e,q,r⟩:=h
  exact ⟨a,vs,e,s.seq q,Reps.mono s ds vs r⟩
theorem Reps.mono {K:Fg} {G G':Hp} (s:zu G G'):∀ (ds:List D) (vs:List V),Reps K G ds vs->Reps K G' ds vs
 | [],_,h=>by simpa [Reps] using h
 |d::ds,_,h=>by
  simp only [Reps] at h ⊢
  obtain ⟨v,r,e,a,b⟩:=h
  exact ⟨v,r,e,Rep.mono s d v a,Reps.mono s ds r b⟩
end
section
variable {K:Fg} {G:Hp}
theorem zBM:Rep K G .non v↔v = .non:=by simp [Rep]
theorem yT {b:Bool} {v:V}:Rep K G (.bl b) v↔v = .bl b:=by simp [Rep]
theorem yB:Rep K G (.int i) v↔v = .int i:=by simp [Rep]
theorem zAU:Rep K G (.str x) v↔v = .str x:=by simp [Rep]
theorem zBN:Rep K G (.tup ds) v↔∃ a vs,v = .ref a/\G a=some (.tup vs)/\Reps K G ds vs:=by simp only [Rep]
theorem zDU (h:Rep K G (.tup ds) v):∃ a vs,v = .ref a/\SqT K G a vs/\Reps K G ds vs:=let ⟨a,vs,e,q,r⟩:=zBN.mp h;⟨a,vs,e,SqT.of q,r⟩
theorem zAy:Rep K G (.lst ds) v↔∃ a vs,v = .ref a/\SqL K G a vs/\Reps K G ds vs:=by simp only [Rep]
theorem yf:Reps K G [] vs↔vs = []:=by simp only [Reps]
theorem zm:Reps K G (d::ds) vs↔∃ v r,vs=v::r/\Rep K G d v/\Reps K G ds r:=by simp only [Reps]
theorem Reps.nil:Reps K G [] []:=yf.mpr rfl
theorem Reps.cons (h:Rep K G d v) (t:Reps K G ds vs):Reps K G (d::ds) (v::vs):=zm.mpr ⟨v,vs,rfl,h,t⟩
theorem Reps.inv (h:Reps K G (d::ds) (v::vs)):Rep K G d v/\Reps K G ds vs:=by
 obtain ⟨v',r,e,a,b⟩:=zm.mp h
 cases e
 exact ⟨a,b⟩
theorem Reps.length:∀ {ds:List D} {vs:List V},Reps K G ds vs->ds.length=vs.length
 | [],vs,h=>by rw [yf.mp h];rfl
 |d::ds,vs,h=>by
  obtain ⟨v,r,rfl,_,t⟩:=zm.mp h
  rw [List.length_cons,List.length_cons,Reps.length t]
theorem Reps.get:∀ {ds:List D} {vs:List V} {i:Nat} {d:D},Reps K G ds vs->ds[i]?=some d->∃ v,vs[i]?=some v/\Rep K G d v
 | [],_,_,_,_,e=>by simp at e
 |d::ds,vs,0,d',h,e=>by
  obtain ⟨v,r,rfl,a,_⟩:=zm.mp h
  simp at e;subst e
  exact ⟨v,rfl,a⟩
 |d::ds,vs,i+1,d',h,e=>by
  obtain ⟨v,r,rfl,_,t⟩:=zm.mp h
  obtain ⟨v',e1,e2⟩:=Reps.get (i:=i) t (by simpa using e)
  exact ⟨v',by simpa using e1,e2⟩
theorem Reps.got {ds:List D} {vs:List V} {i:Nat} (h:Reps K G ds vs) (e:vs[i]?=some v):∃ d,ds[i]?=some d/\Rep K G d v:=by
 have hl:i<ds.length:=by rw [h.length];exact (List.getElem?_eq_some_iff.mp e).1
 obtain ⟨v',e1,r⟩:=h.get (i:=i) (d:=ds[i]) (by simp [hl])
 rw [e] at e1;cases e1
 exact ⟨ds[i],by simp [hl],r⟩
theorem Reps.append:∀ {ds es:List D} {vs us:List V},Reps K G ds vs->Reps K G es us->Reps K G (ds++es) (vs++us)
 | [],_,vs,_,h,t=>by rw [yf.mp h];exact t
 |d::ds,es,vs,us,h,t=>by
  obtain ⟨v,r,rfl,a,b⟩:=zm.mp h
  exact Reps.cons a (Reps.append b t)
theorem Reps.take:∀ {ds:List D} {vs:List V} (n:Nat),Reps K G ds vs->Reps K G (ds.take n) (vs.take n)
 |_,_,0,_=>by simpa using Reps.nil
 | [],vs,n+1,h=>by rw [yf.mp h];simpa using Reps.nil
 |d::ds,vs,n+1,h=>by
  obtain ⟨v,r,rfl,a,b⟩:=zm.mp h
  exact Reps.cons a (Reps.take n b)
theorem Reps.drop:∀ {ds:List D} {vs:List V} (n:Nat),Reps K G ds vs->Reps K G (ds.drop n) (vs.drop n)
 |_,_,0,h=>by simpa using h
 | [],vs,n+1,h=>by rw [yf.mp h];simpa using Reps.nil
 |d::ds,vs,n+1,h=>by
  obtain ⟨v,r,rfl,a,b⟩:=zm.mp h
  exact Reps.drop n b
theorem Reps.set:∀ {ds:List D} {vs:List V} (i:Nat) {d:D} {v:V},Reps K G ds vs->Rep K G d v->Reps K G (ds.set i d) (vs.set i v)
 | [],vs,_,_,_,h,_=>by rw [yf.mp h];simpa using Reps.nil
 |d::ds,vs,0,d',v',h,q=>by
  obtain ⟨v,r,rfl,a,b⟩:=zm.mp h
  exact Reps.cons q b
 |d::ds,vs,i+1,d',v',h,q=>by
  obtain ⟨v,r,rfl,a,b⟩:=zm.mp h
  exact Reps.cons a (Reps.set i b q)
theorem Reps.dropLast:∀ {ds:List D} {vs:List V},Reps K G ds vs->Reps K G ds.dropLast vs.dropLast:=λ{ds vs} h=>by
 rw [List.dropLast_eq_take,List.dropLast_eq_take,h.length]
 exact h.take _
theorem Reps.ints:∀ (ns:List Int),Reps K G (ns.map D.int) (ns.map V.int)
 | []=>Reps.nil
 |n::ns=>Reps.cons (yB.mpr rfl) (Reps.ints ns)
end
structure zg (G H G' H':Hp):Prop where
 g:zu G G'
 h:zu H H'
 s:zu G' H'
 f:∀ b o,G' b=some o->G b=none->H b=none
theorem zg.refl (s:zu G H):zg G H G H:=⟨zu.refl _,zu.refl _,s,λb o e n=>by rw [n] at e;cases e⟩
theorem zg.trans {G H G1 H1 G2 H2:Hp} (a:zg G H G1 H1) (b:zg G1 H1 G2 H2):zg G H G2 H2:=
 ⟨a.g.trans b.g,a.h.trans b.h,b.s,λc o e n=>by
  cases q:G1 c with
  |some o'=>exact a.f c o' q n
  |none=>exact a.h.free (b.f c o e q)⟩
theorem yq (n:H p=none):zu H (upd H p o):=λb u e=>by rw [zY (qR e n)];exact e
theorem zg.new {G H:Hp} (s:zu G H) {p:Addr} {o:HO} (n:H p=none):zg G H (upd G p o) (upd H p o):=
 ⟨yq (s.free n),yq n,λb u e=>by
  by_cases hb:b=p
  ·subst hb;rw [zR] at e ⊢;exact e
  ·rw [zY hb] at e ⊢;exact s b u e,λb u e k=>by
  by_cases hb:b=p
  ·subst hb;exact n
  ·rw [zY hb] at e;rw [e] at k;cases k⟩
theorem zg.newH (s:zu G H) (n:H p=none):zg G H G (upd H p o):=
 ⟨zu.refl _,yq n,s.trans (yq n),λb u e k=>by rw [e] at k;cases k⟩
inductive Fd where
 |l (xs:List D)|m (kvs:List (Key×D))|t (kvs:List (List Key×D))|ml (kvs:List (Key×List D))|tl (kvs:List (List Key×List D))
inductive Fl where
 |v (d:D)|f (x:Fd)
inductive Ob where
 |p (f:Fd)|ins (C:Addr) (fs:List (Str×Fl))
def zCC (K:Fg) (G:Hp) (kvs:List (Key×D)) (ws:List (Key×V)):Prop:=kvs.map (·.1)=ws.map (·.1)/\Reps K G (kvs.map (·.2)) (ws.map (·.2))
theorem zCC.mono {K:Fg} {G G':Hp} (s:zu G G') {kvs:List (Key×D)} {ws:List (Key×V)} (h:zCC K G kvs ws):zCC K G' kvs ws:=⟨h.1,Reps.mono s _ _ h.2⟩
def zP1:V->Option Addr
 |.ref a=>some a
 |_=>none
theorem zNJ (h:zP1 v=some a):v = .ref a:=by
 cases v<;>first|(cases h;done)|(simp only [zP1,Option.some.injEq] at h;rw [h])
def zFR {κ:Type} (ws:List (κ×V)):List Addr:=ws.filterMap λq=>zP1 q.2
theorem qU {κ:Type} {ws:List (κ×V)}:a∈zFR ws↔.ref a∈ws.map (·.2):=by
 unfold zFR
 rw [List.mem_filterMap,List.mem_map]
 constructor
 ·rintro ⟨q,h,e⟩;exact ⟨q,h,zNJ e⟩
 ·rintro ⟨q,h,e⟩;exact ⟨q,h,by rw [e];rfl⟩
def inK:Option HO->List Addr
 |some (.dK ws)=>zFR ws
 |some (.dT ws)=>zFR ws
 |_=>[]
def fpF (H:Hp):Fd->Addr->List Addr
 |.l _,a=>[a]
 |.m _,a=>[a]
 |.t _,a=>[a]
 |.ml _,a=>a::inK (H a)
 |.tl _,a=>a::inK (H a)
def fpL (H:Hp):Fl->V->List Addr
 |.f x,.ref a=>fpF H x a
 |_,_=>[]
def fpW (H:Hp) (fs:List (Str×Fl)) (ws:List (Str×V)):List Addr:=fs.flatMap λq=>match ws.lookup q.1 with
 |some u=>fpL H q.2 u
 |none=>[]
def inI (H:Hp) (fs:List (Str×Fl)):Option HO->List Addr
 |some (.ins _ dx ws)=>dx::fpW H fs ws
 |_=>[]
def fpO (H:Hp):Ob->Addr->List Addr
 |.p f,a=>fpF H f a
 |.ins _ fs,a=>a::inI H fs (H a)
section
variable (K:Fg) (G H:Hp)
def yV:List (List D)->List V->Prop
 | [],vs=>vs = []
 |xs::r,vs=>∃ b us t,vs = .ref b::t/\H b=some (.lst us)/\Reps K G xs us/\yV r t
def zHn:Fd->Addr->Prop
 |.l xs,a=>∃ vs,H a=some (.lst vs)/\Reps K G xs vs
 |.m kvs,a=>∃ ws,H a=some (.dK ws)/\zCC K G kvs ws
 |.t kvs,a=>∃ ws,H a=some (.dT ws)/\kvs.map (·.1)=ws.map (·.1)/\Reps K G (kvs.map (·.2)) (ws.map (·.2))
 |.ml kvs,a=>∃ ws,H a=some (.dK ws)/\kvs.map (·.1)=ws.map (·.1)/\yV K G H (kvs.map (·.2)) (ws.map (·.2))
 |.tl kvs,a=>∃ ws,H a=some (.dT ws)/\kvs.map (·.1)=ws.map (·.1)/\yV K G H (kvs.map (·.2)) (ws.map (·.2))
def zP2:Fl->V->Prop
 |.v d,u=>Rep K G d u
 |.f x,u=>∃ a,u = .ref a/\zHn K G H x a
def zKv:Ob->Addr->Prop
 |.p f,a=>zHn K G H f a
 |.ins C fs,a=>∃ dx ws,H a=some (.ins C dx ws)/\H dx=some (.own a)/\(∀ q∈fs,∃ u,ws.lookup q.1=some u/\zP2 K G H q.2 u)/\(∀ x,fs.lookup x=none->ws.lookup x=none)/\ws.length<=fs.length
end
section
variable {K:Fg} {G G' H H':Hp}
theorem yV.there:∀ {xs:List (List D)} {vs:List V},yV K G H xs vs->∀ b,.ref b∈vs->∃ o,H b=some o
 | [],_,h,b,m=>by simp only [yV] at h;subst h;cases m
 |x::xs,_,h,b,m=>by
  simp only [yV] at h
  obtain ⟨c,us,t,rfl,e,r,l⟩:=h
  rcases List.mem_cons.mp m with z|m
  ·cases z;exact ⟨_,e⟩
  ·exact yV.there l b m
theorem yV.same (g:zu G G'):∀ {xs:List (List D)} {vs:List V},yV K G H xs vs->(∀ b,.ref b∈vs->∀ o,H b=some o->H' b=some o)->yV K G' H' xs vs
 | [],_,h,_=>by simpa only [yV] using h
 |x::xs,_,h,m=>by
  simp only [yV] at h ⊢
  obtain ⟨c,us,t,rfl,e,r,l⟩:=h
  exact ⟨c,us,t,rfl,m c (List.mem_cons_self ..) _ e,Reps.mono g _ _ r,yV.same g l λb z=>m b (List.mem_cons_of_mem _ z)⟩
theorem zHn.head:a∈fpF H f a:=by cases f<;>simp [fpF]
theorem zHn.there {f:Fd} {a:Addr} (h:zHn K G H f a):∀ c∈fpF H f a,∃ o,H c=some o:=by
 intro c m
 cases f with
 |l xs=>obtain ⟨vs,e,_⟩:=h;simp only [fpF,List.mem_singleton] at m;subst m;exact ⟨_,e⟩
 |m xs=>obtain ⟨vs,e,_⟩:=h;simp only [fpF,List.mem_singleton] at m;subst m;exact ⟨_,e⟩
 |t xs=>obtain ⟨vs,e,_⟩:=h;simp only [fpF,List.mem_singleton] at m;subst m;exact ⟨_,e⟩
 |ml xs=>
  obtain ⟨ws,e,_,l⟩:=h
  rcases List.mem_cons.mp m with z|m
  ·subst z;exact ⟨_,e⟩
  ·rw [e] at m;exact l.there c (qU.mp m)
 |tl xs=>
  obtain ⟨ws,e,_,l⟩:=h
  rcases List.mem_cons.mp m with z|m
  ·subst z;exact ⟨_,e⟩
  ·rw [e] at m;exact l.there c (qU.mp m)
theorem zHn.same {f:Fd} {a:Addr} (g:zu G G') (h:zHn K G H f a) (k:∀ c∈fpF H f a,∀ o,H c=some o->H' c=some o):zHn K G' H' f a/\fpF H' f a=fpF H f a:=by
 cases f with
 |l xs=>obtain ⟨vs,e,r⟩:=h;exact ⟨⟨vs,k a zHn.head _ e,Reps.mono g _ _ r⟩,rfl⟩
 |m xs=>obtain ⟨vs,e,r⟩:=h;exact ⟨⟨vs,k a zHn.head _ e,r.mono g⟩,rfl⟩
 |t xs=>obtain ⟨vs,e,q,r⟩:=h;exact ⟨⟨vs,k a zHn.head _ e,q,Reps.mono g _ _ r⟩,rfl⟩
 |ml xs=>
  obtain ⟨ws,e,q,l⟩:=h
  have e':=k a zHn.head _ e
  refine ⟨⟨ws,e',q,l.same g λb m o z=>k b ?_ o z⟩,by simp only [fpF];rw [e,e']⟩
  simp only [fpF];rw [e];exact List.mem_cons_of_mem _ (qU.mpr m)
 |tl xs=>
  obtain ⟨ws,e,q,l⟩:=h
  have e':=k a zHn.head _ e
  refine ⟨⟨ws,e',q,l.same g λb m o z=>k b ?_ o z⟩,by simp only [fpF];rw [e,e']⟩
  simp only [fpF];rw [e];exact List.mem_cons_of_mem _ (qU.mpr m)
theorem zP2.there {f:Fl} {u:V} (h:zP2 K G H f u):∀ c∈fpL H f u,∃ o,H c=some o:=by
 intro c m
 cases f with
 |v d=>cases u<;>cases m
 |f x=>obtain ⟨a,rfl,r⟩:=h;exact r.there c m
theorem zP2.same {f:Fl} {u:V} (g:zu G G') (h:zP2 K G H f u) (k:∀ c∈fpL H f u,∀ o,H c=some o->H' c=some o):zP2 K G' H' f u/\fpL H' f u=fpL H f u:=by
 cases f with
 |v d=>exact ⟨Rep.mono g _ _ h,by cases u<;>rfl⟩
 |f x=>obtain ⟨a,rfl,r⟩:=h;exact ⟨⟨a,rfl,(r.same g k).1⟩,(r.same g k).2⟩
theorem zP3 {ws:List (Str×V)} {q:Str×Fl} (hq:q∈fs) (hu:ws.lookup q.1=some u) (hc:c∈fpL H q.2 u):c∈fpW H fs ws:=
 List.mem_flatMap.mpr ⟨q,hq,by rw [hu];exact hc⟩
theorem zNK {ws:List (Str×V)}:∀ (k:∀ q∈fs,∃ u,ws.lookup q.1=some u/\fpL H' q.2 u=fpL H q.2 u),fpW H' fs ws=fpW H fs ws:=by
 induction fs with
 |nil=>intro _;rfl
 |cons q fs ih=>
  intro k
  obtain ⟨u,e,z⟩:=k q (List.mem_cons_self ..)
  have:=ih λp m=>k p (List.mem_cons_of_mem _ m)
  unfold fpW at this ⊢
  rw [List.flatMap_cons,List.flatMap_cons,this,e]
  simp only [z]
theorem zKv.head:a∈fpO H o a:=by
 cases o with
 |p f=>exact zHn.head
 |ins C fs=>exact List.mem_cons_self ..
theorem zKv.there {o:Ob} {a:Addr} (h:zKv K G H o a):∀ c∈fpO H o a,∃ u,H c=some u:=by
 cases o with
 |p f=>exact zHn.there h
 |ins C fs=>
  obtain ⟨dx,ws,e1,e2,e3,_⟩:=h
  intro c m
  rcases List.mem_cons.mp m with z|m
  ·subst z;exact ⟨_,e1⟩
  ·rw [e1] at m
   rcases List.mem_cons.mp m with z|m
   ·subst z;exact ⟨_,e2⟩
   ·obtain ⟨q,hq,m⟩:=List.mem_flatMap.mp m
    obtain ⟨u,e,r⟩:=e3 q hq
    rw [e] at m
    exact r.there c m
theorem zKv.same {o:Ob} {a:Addr} (g:zu G G') (h:zKv K G H o a) (k:∀ c∈fpO H o a,∀ u,H c=some u->H' c=some u):zKv K G' H' o a/\fpO H' o a=fpO H o a:=by
 cases o with
 |p f=>exact zHn.same g h k
 |ins C fs=>
  obtain ⟨dx,ws,e1,e2,e3,e4⟩:=h
  have e1':=k a zKv.head _ e1
  have sub:∀ c∈dx::fpW H fs ws,∀ u,H c=some u->H' c=some u:=λc m=>k c (by simp only [fpO];rw [e1];exact List.mem_cons_of_mem _ m)
  have fl:∀ q∈fs,∃ u,ws.lookup q.1=some u/\zP2 K G' H' q.2 u/\fpL H' q.2 u=fpL H q.2 u:=λq hq=>by
   obtain ⟨u,e,r⟩:=e3 q hq
   exact ⟨u,e,r.same g λc m=>sub c (List.mem_cons_of_mem _ (zP3 hq e m))⟩
  refine ⟨⟨dx,ws,e1',sub dx (List.mem_cons_self ..) _ e2,λq hq=>?_,e4⟩,?_⟩
  ·obtain ⟨u,e,r,_⟩:=fl q hq;exact ⟨u,e,r⟩
  ·simp only [fpO]
   rw [e1,e1']
   simp only [inI]
   rw [zNK λq hq=>let ⟨u,e,_,z⟩:=fl q hq;⟨u,e,z⟩]
end
inductive Sl where
 |un|v (d:D)|l (xs:List D)|m (kvs:List (Key×D))
  |o (c:Option Addr) (x:Ob)|b (c:Addr) (x:Ob)
def Sl.isOwn:Sl->Bool
 |.l _=>true
 |.m _=>true
 |.o _ _=>true
 |_=>false
def Sl.isPl:Sl->Bool
 |.l _=>true
 |.m _=>true
 |_=>false
def Sl.isObj:Sl->Bool
 |.l _=>true
 |.m _=>true
 |.o _ _=>true
 |.b _ _=>true
 |_=>false
theorem Sl.own_of_pl {s:Sl} (h:s.isPl=true):s.isOwn=true:=by cases s<;>first|rfl|cases h
theorem Sl.obj_of_own {s:Sl} (h:s.isOwn=true):s.isObj=true:=by cases s<;>first|rfl|cases h
abbrev Rho:=List Sl
abbrev ROl:=Rho->Option (List D)
abbrev ROd:=Rho->Option D
abbrev ROb:=Rho->Option Bool
def fpS (H:Hp):Sl->Addr->List Addr
 |.l _,a=>[a]
 |.m _,a=>[a]
 |.o _ x,a=>fpO H x a
 |.b _ x,a=>fpO H x a
 |_,_=>[]
def zKI (K:Fg) (G H:Hp):Sl->Addr->Prop
 |.l xs,a=>∃ vs,H a=some (.lst vs)/\Reps K G xs vs
 |.m kvs,a=>∃ ws,H a=some (.dK ws)/\zCC K G kvs ws
 |.o c x,a=>(zKv K G H x a/\(fpO H x a).Nodup)/\∀ c',c=some c'->a=c'
 |.b c x,a=>(zKv K G H x a/\(fpO H x a).Nodup)/\a=c
 |_,_=>False
section
variable {K:Fg} {G G' H H':Hp} {s:Sl} {a:Addr}
theorem zG5 (h:s.isPl=true):fpS H s a = [a]:=by cases s<;>first|rfl|cases h
theorem zEC (h:s.isObj=true):a∈fpS H s a:=by
 cases s<;>first|(cases h;done)|exact List.mem_singleton.mpr rfl|exact zKv.head
theorem zKI.there (h:zKI K G H s a):∀ c∈fpS H s a,∃ u,H c=some u:=by
 cases s with
 |un=>cases h
 |v d=>cases h
 |l xs=>obtain ⟨vs,e,_⟩:=h;intro c m;cases List.mem_singleton.mp m;exact ⟨_,e⟩
 |m xs=>obtain ⟨vs,e,_⟩:=h;intro c m;cases List.mem_singleton.mp m;exact ⟨_,e⟩
 |o c x=>exact h.1.1.there
 |b c x=>exact h.1.1.there
theorem zKI.same (g:zu G G') (h:zKI K G H s a) (k:∀ c∈fpS H s a,∀ u,H c=some u->H' c=some u):zKI K G' H' s a/\fpS H' s a=fpS H s a:=by
 cases s with
 |un=>cases h
 |v d=>cases h
 |l xs=>obtain ⟨vs,e,r⟩:=h;exact ⟨⟨vs,k a (List.mem_singleton.mpr rfl) _ e,Reps.mono g _ _ r⟩,rfl⟩
 |m xs=>obtain ⟨vs,e,r⟩:=h;exact ⟨⟨vs,k a (List.mem_singleton.mpr rfl) _ e,r.mono g⟩,rfl⟩
 |o c x=>have q:=h.1.1.same g k;exact ⟨⟨⟨q.1,by rw [q.2];exact h.1.2⟩,h.2⟩,q.2⟩
 |b c x=>have q:=h.1.1.same g k;exact ⟨⟨⟨q.1,by rw [q.2];exact h.1.2⟩,h.2⟩,q.2⟩
end
structure Er (K:Fg) (G H:Hp) (ρ:Rho) (σ:L2.St):Prop where
 len:ρ.length=σ.length
 val:∀ (i:Nat) (d:D),ρ[i]?=some (.v d)->∃ v,σ[i]?=some (some v)/\Rep K G d v
 slot:∀ (i:Nat) (s:Sl),ρ[i]?=some s->s.isObj=true->∃ a,σ[i]?=some (some (.ref a))/\zKI K G H s a/\∀ c∈fpS H s a,G c=none
 sep:∀ (i j:Nat) (s t:Sl) (a b:Addr),i≠j->ρ[i]?=some s->s.isOwn=true->ρ[j]?=some t->t.isObj=true->σ[i]?=some (some (.ref a))->σ[j]?=some (some (.ref b))->∀ c∈fpS H s a,c∉fpS H t b
section
variable {K:Fg} {G H G' H':Hp} {ρ:Rho} {σ:L2.St}
theorem Er.own (e:Er K G H ρ σ) (i:Nat) (xs:List D) (h:ρ[i]?=some (.l xs)):∃ a vs,σ[i]?=some (some (.ref a))/\G a=none/\H a=some (.lst vs)/\Reps K G xs vs:=by
 obtain ⟨a,h1,⟨vs,h2,h3⟩,h4⟩:=e.slot i _ h rfl
 exact ⟨a,vs,h1,h4 a (zEC rfl),h2,h3⟩
theorem Er.dic (e:Er K G H ρ σ) (i:Nat) (kvs:List (Key×D)) (h:ρ[i]?=some (.m kvs)):∃ a ws,σ[i]?=some (some (.ref a))/\G a=none/\H a=some (.dK ws)/\zCC K G kvs ws:=by
 obtain ⟨a,h1,⟨vs,h2,h3⟩,h4⟩:=e.slot i _ h rfl
 exact ⟨a,vs,h1,h4 a (zEC rfl),h2,h3⟩
theorem Er.ownAt (e:Er K G H ρ σ) {i:Nat} {s:Sl} (h:ρ[i]?=some s) (o:s.isOwn=true):∃ a u,σ[i]?=some (some (.ref a))/\G a=none/\H a=some u:=by
 obtain ⟨a,h1,h2,h3⟩:=e.slot i s h (Sl.obj_of_own o)
 obtain ⟨u,q⟩:=h2.there a (zEC (Sl.obj_of_own o))
 exact ⟨a,u,h1,h3 a (zEC (Sl.obj_of_own o)),q⟩
theorem Er.hop (e:Er K G H ρ σ) (g:zu G G') (k:∀ (i:Nat) (s:Sl) (a:Addr),ρ[i]?=some s->s.isObj=true->σ[i]?=some (some (.ref a))->∀ c∈fpS H s a,(∀ u,H c=some u->H' c=some u)/\G' c=none):Er K G' H' ρ σ:=by
 have all:∀ (i:Nat) (s:Sl) (a:Addr),ρ[i]?=some s->s.isObj=true->σ[i]?=some (some (.ref a))->zKI K G' H' s a/\fpS H' s a=fpS H s a:=λi s a h o q=>by
  obtain ⟨a',h1,h2,_⟩:=e.slot i s h o
  rw [q] at h1;cases h1
  exact h2.same g λc m=>(k i s a h o q c m).1
 refine ⟨e.len,λi d h=>let ⟨v,a,b⟩:=e.val i d h;⟨v,a,Rep.mono g d v b⟩,λi s h o=>?_,λi j s t a b ne h1 o1 h2 o2 q1 q2=>?_⟩
 ·obtain ⟨a,h1,h2,h3⟩:=e.slot i s h o
  exact ⟨a,h1,(all i s a h o h1).1,by rw [(all i s a h o h1).2];exact λc m=>(k i s a h o h1 c m).2⟩
 ·rw [(all i s a h1 (Sl.obj_of_own o1) q1).2,(all j t b h2 o2 q2).2]
  exact e.sep i j s t a b ne h1 o1 h2 o2 q1 q2
theorem Er.there (e:Er K G H ρ σ) {i:Nat} {s:Sl} {a:Addr} (h:ρ[i]?=some s) (o:s.isObj=true) (q:σ[i]?=some (some (.ref a))) {c:Addr} (m:c∈fpS H s a):(∃ u,H c=some u)/\G c=none:=by
 obtain ⟨a',h1,h2,h3⟩:=e.slot i s h o
 rw [q] at h1;cases h1
 exact ⟨h2.there c m,h3 c m⟩
theorem Er.step (e:Er K G H ρ σ) (t:zg G H G' H'):Er K G' H' ρ σ:=e.hop t.g λi s a h o q c m=>by
 obtain ⟨⟨u,h1⟩,h2⟩:=e.there h o q m
 refine ⟨λu z=>t.h _ _ z,?_⟩
 cases z:G' c with
 |none=>rfl
 |some o=>have:=t.f c o z h2;rw [h1] at this;cases this
end
structure Bs (G0 H0 G H:Hp):Prop where
 gh:zu G H
 gg:zu G0 G
 hh:zu H0 H
 fr:∀ b o,G b=some o->G0 b=none->H0 b=none
theorem Bs.step {G0 H0 G H G' H':Hp} (b:Bs G0 H0 G H) (t:zg G H G' H'):Bs G0 H0 G' H':=
 ⟨t.s,b.gg.trans t.g,b.hh.trans t.h,λc o e n=>by
  cases q:G c with
  |some o'=>exact b.fr c o' q n
  |none=>exact b.hh.free (t.f c o e q)⟩
structure StR (K:Fg) (G0 H0 G H:Hp) (ρ:Rho) (σ:L2.St):Prop where
 er:Er K G H ρ σ
 bs:Bs G0 H0 G H
 ows:∀ (i:Nat) (s:Sl) (a:Addr),ρ[i]?=some s->s.isOwn=true->σ[i]?=some (some (.ref a))->∀ c∈fpS H s a,H0 c=none
section
variable {K:Fg} {G0 H0 G H G' H':Hp} {ρ:Rho} {σ:L2.St}
theorem Er.fp (e:Er K G H ρ σ) (t:zu H H') {i:Nat} {u:Sl} {a:Addr} (h:ρ[i]?=some u) (o:u.isObj=true) (q:σ[i]?=some (some (.ref a))):fpS H' u a=fpS H u a:=by
 obtain ⟨a',h1,h2,_⟩:=e.slot i u h o
 rw [q] at h1;cases h1
 exact (h2.same (zu.refl _) λc _ v z=>t _ _ z).2
theorem StR.step (s:StR K G0 H0 G H ρ σ) (t:zg G H G' H'):StR K G0 H0 G' H' ρ σ:=
 ⟨s.er.step t,s.bs.step t,λi u a h o q=>by rw [s.er.fp t.h h (Sl.obj_of_own o) q];exact s.ows i u a h o q⟩
end
theorem yF {α:Type} {l:List α} {i j:Nat} {x y:α} (h:(l.set i x)[j]?=some y):(j=i/\y=x/\i<l.length)\/(j≠i/\l[j]?=some y):=by
 by_cases e:j=i
 ·subst e
  have hl:j<l.length:=by
   have:=(List.getElem?_eq_some_iff.mp h).1
   simpa using this
  rw [List.getElem?_set_self hl] at h
  cases h
  exact .inl ⟨rfl,rfl,hl⟩
 ·rw [List.getElem?_set_ne (Ne.symm e)] at h
  exact .inr ⟨e,h⟩
section
variable {K:Fg} {G0 H0 G H G' H':Hp} {ρ:Rho} {σ:L2.St} {i:Nat}
theorem StR.setV {d:D} {v:V} (s:StR K G0 H0 G H ρ σ) (r:Rep K G d v):StR K G0 H0 G H (ρ.set i (.v d)) (σ.set i (some v)) where
 bs:=s.bs
 er:={
  len:=by simpa using s.er.len
  val:=λj d' h=>by
   rcases yF h with ⟨rfl,e,hl⟩|⟨hj,h⟩
   ·cases e
    exact ⟨v,List.getElem?_set_self (by rw [<- s.er.len];exact hl),r⟩
   ·rw [List.getElem?_set_ne (Ne.symm hj)];exact s.er.val j d' h
  slot:=λj u h o=>by
   rcases yF h with ⟨rfl,e,hl⟩|⟨hj,h⟩
   ·subst e;cases o
   ·rw [List.getElem?_set_ne (Ne.symm hj)];exact s.er.slot j u h o
  sep:=λj k u t a b ne h1 o1 h2 o2 q1 q2=>by
   rcases yF h1 with ⟨rfl,e,_⟩|⟨hj,h1⟩
   ·subst e;cases o1
   rcases yF h2 with ⟨rfl,e,_⟩|⟨hk,h2⟩
   ·subst e;cases o2
   rw [List.getElem?_set_ne (Ne.symm hj)] at q1
   rw [List.getElem?_set_ne (Ne.symm hk)] at q2
   exact s.er.sep j k u t a b ne h1 o1 h2 o2 q1 q2 }
 ows:=λj u a h o q=>by
  rcases yF h with ⟨rfl,e,_⟩|⟨hj,h⟩
  ·subst e;cases o
  ·rw [List.getElem?_set_ne (Ne.symm hj)] at q;exact s.ows j u a h o q
theorem StR.setNew {a:Addr} {w:Sl} (s:StR K G0 H0 G H ρ σ) (t:zg G H G' H') (hw:w.isOwn=true) (hr:zKI K G' H' w a) (hn:∀ c∈fpS H' w a,H c=none/\G' c=none) :
  StR K G0 H0 G' H' (ρ.set i w) (σ.set i (some (.ref a))):=by
 have s':=s.step t
 have old:∀ {j:Nat} {u:Sl} {b c:Addr},ρ[j]?=some u->u.isObj=true->σ[j]?=some (some (.ref b))->c∈fpS H' u b->c∉fpS H' w a:=λ{j u b c} h o q m z=>by
  rw [s.er.fp t.h h o q] at m
  obtain ⟨⟨x,e⟩,_⟩:=s.er.there h o q m
  rw [(hn c z).1] at e;cases e
 refine ⟨⟨by simpa using s.er.len,λj d' h=>?_,λj u h o=>?_,λj k u v b b' ne h1 o1 h2 o2 q1 q2=>?_⟩,s'.bs,λj u b h o q=>?_⟩
 ·rcases yF h with ⟨rfl,e,_⟩|⟨hj,h⟩
  ·subst e;cases hw
  ·rw [List.getElem?_set_ne (Ne.symm hj)];exact s'.er.val j d' h
 ·rcases yF h with ⟨rfl,e,hi⟩|⟨hj,h⟩
  ·subst e
   exact ⟨a,List.getElem?_set_self (by rw [<- s.er.len];exact hi),hr,λc m=>(hn c m).2⟩
  ·rw [List.getElem?_set_ne (Ne.symm hj)];exact s'.er.slot j u h o
 ·rcases yF h1 with ⟨ej,e,hi⟩|⟨hj,h1'⟩
  ·rw [ej,List.getElem?_set_self (by rw [<- s.er.len];exact hi)] at q1
   cases q1
   subst e
   rcases yF h2 with ⟨ek,_,_⟩|⟨hk,h2'⟩
   ·exact absurd (ej.trans ek.symm) ne
   ·rw [List.getElem?_set_ne (Ne.symm hk)] at q2
    exact λc m z=>old h2' o2 q2 z m
  ·rw [List.getElem?_set_ne (Ne.symm hj)] at q1
   rcases yF h2 with ⟨ek,e,hi⟩|⟨hk,h2'⟩
   ·rw [ek,List.getElem?_set_self (by rw [<- s.er.len];exact hi)] at q2
    cases q2
    subst e
    exact λc m z=>old h1' (Sl.obj_of_own o1) q1 m z
   ·rw [List.getElem?_set_ne (Ne.symm hk)] at q2
    exact s'.er.sep j k u v b b' ne h1' o1 h2' o2 q1 q2
 ·rcases yF h with ⟨rfl,e,hi⟩|⟨hj,h⟩
  ·rw [List.getElem?_set_self (by rw [<- s.er.len];exact hi)] at q
   cases q
   subst e
   exact λc m=>s.bs.hh.free (hn c m).1
  ·rw [List.getElem?_set_ne (Ne.symm hj)] at q;exact s'.ows j u b h o q
theorem StR.setOwn {w:Sl} (s:StR K G0 H0 G H ρ σ) (t:zg G H G' H') (hw:w.isPl=true) (hn:H a=none) (hg:G' a=none) (hl:∀ xs,w = .l xs->∃ vs,H' a=some (.lst vs)/\Reps K G' xs vs) (hm:∀ kvs,w = .m kvs->∃ ws,H' a=some (.dK ws)/\zCC K G' kvs ws) :
  StR K G0 H0 G' H' (ρ.set i w) (σ.set i (some (.ref a))):=by
 refine s.setNew t (Sl.own_of_pl hw) ?_ λc m=>?_
 ·cases w with
  |l xs=>exact hl xs rfl
  |m xs=>exact hm xs rfl
  |_=>cases hw
 ·rw [zG5 hw] at m
  cases List.mem_singleton.mp m
  exact ⟨hn,hg⟩
theorem StR.mutG {a:Addr} {u w:Sl} (s:StR K G0 H0 G H ρ σ) (hu:ρ[i]?=some u) (ou:u.isOwn=true) (hw:w.isOwn=true) (ha:σ[i]?=some (some (.ref a)))
  (hG:zu G G') (hGH:zu G' H') (hf:∀ b o,G' b=some o->G b=none->H b=none\/b∈fpS H u a) (hH:∀ b o,H b=some o->b∉fpS H u a->H' b=some o)
  (hr:zKI K G' H' w a) (hn:∀ c∈fpS H' w a,(c∈fpS H u a\/H c=none)/\G' c=none):StR K G0 H0 G' H' (ρ.set i w) σ:=by
 have hi:i<ρ.length:=(List.getElem?_eq_some_iff.mp hu).1
 have off:∀ {j:Nat} {u':Sl} {b c:Addr},j≠i->ρ[j]?=some u'->u'.isObj=true->σ[j]?=some (some (.ref b))->c∈fpS H u' b->c∉fpS H u a:=λ{j u' b c} ne h o q m z=>
  s.er.sep i j u u' a b (Ne.symm ne) hu ou h o ha q c z m
 have all:∀ {j:Nat} {u':Sl} {b:Addr},j≠i->ρ[j]?=some u'->u'.isObj=true->σ[j]?=some (some (.ref b))->(zKI K G' H' u' b/\fpS H' u' b=fpS H u' b)/\∀ c∈fpS H u' b,G' c=none:=λ{j u' b} ne h o q=>by
  obtain ⟨b',h1,h2,h3⟩:=s.er.slot j u' h o
  rw [q] at h1;cases h1
  refine ⟨h2.same hG λc m v z=>hH c v z (off ne h o q m),λc m=>?_⟩
  cases z:G' c with
  |none=>rfl
  |some x=>
   rcases hf c x z (h3 c m) with y|y
   ·obtain ⟨v,e⟩:=h2.there c m;rw [y] at e;cases e
   ·exact absurd y (off ne h o q m)
 have h0:∀ c∈fpS H u a,H0 c=none:=s.ows i u a hu ou ha
 refine ⟨⟨by simpa using s.er.len,λj d' h=>?_,λj v h o=>?_,λj k v v' b b' ne h1 o1 h2 o2 q1 q2=>?_⟩,⟨hGH,s.bs.gg.trans hG,λb x e=>?_,λb x e n=>?_⟩,λj v b h o q=>?_⟩
 ·rcases yF h with ⟨rfl,e,_⟩|⟨hj,h⟩
  ·subst e;cases hw
  ·obtain ⟨v,e1,e2⟩:=s.er.val j d' h;exact ⟨v,e1,Rep.mono hG _ _ e2⟩
 ·rcases yF h with ⟨rfl,e,_⟩|⟨hj,h⟩
  ·subst e;exact ⟨a,ha,hr,λc m=>(hn c m).2⟩
  ·obtain ⟨b,h1,_,_⟩:=s.er.slot j v h o
   have q:=all hj h o h1
   exact ⟨b,h1,q.1.1,by rw [q.1.2];exact q.2⟩
 ·have new:∀ {k:Nat} {v':Sl} {b' c:Addr},k≠i->ρ[k]?=some v'->v'.isObj=true->σ[k]?=some (some (.ref b'))->c∈fpS H' w a->c∉fpS H' v' b':=λ{k v' b' c} nk h o q m z=>by
   rw [(all nk h o q).1.2] at z
   rcases (hn c m).1 with y|y
   ·exact off nk h o q z y
   ·obtain ⟨⟨x,e⟩,_⟩:=s.er.there h o q z;rw [y] at e;cases e
  rcases yF h1 with ⟨ej,e,_⟩|⟨hj,h1'⟩
  ·subst ej;subst e
   rw [ha] at q1;cases q1
   rcases yF h2 with ⟨ek,_,_⟩|⟨hk,h2'⟩
   ·exact absurd ek.symm ne
   ·exact λc m=>new hk h2' o2 q2 m
  ·rcases yF h2 with ⟨ek,e,_⟩|⟨hk,h2'⟩
   ·subst ek;subst e
    rw [ha] at q2;cases q2
    exact λc m z=>new hj h1' (Sl.obj_of_own o1) q1 z m
   ·rw [(all hj h1' (Sl.obj_of_own o1) q1).1.2,(all hk h2' o2 q2).1.2]
    exact s.er.sep j k v v' b b' ne h1' o1 h2' o2 q1 q2
 ·exact hH b x (s.bs.hh b x e) λz=>by rw [h0 b z] at e;cases e
 ·cases q:G b with
  |some o'=>exact s.bs.fr b o' q n
  |none=>
   rcases hf b x e q with y|y
   ·exact s.bs.hh.free y
   ·exact h0 b y
 ·rcases yF h with ⟨rfl,e,_⟩|⟨hj,h⟩
  ·subst e
   rw [ha] at q;cases q
   intro c m
   rcases (hn c m).1 with y|y
   ·exact h0 c y
   ·exact s.bs.hh.free y
  ·rw [(all hj h (Sl.obj_of_own o) q).1.2];exact s.ows j v b h o q
theorem StR.mut {a:Addr} {u w:Sl} (s:StR K G0 H0 G H ρ σ) (hu:ρ[i]?=some u) (ou:u.isPl=true) (hw:w.isPl=true) (ha:σ[i]?=some (some (.ref a))) (hl:∀ xs,w = .l xs->∃ vs,o = .lst vs/\Reps K G xs vs) (hm:∀ kvs,w = .m kvs->∃ ws,o = .dK ws/\zCC K G kvs ws) :
  StR K G0 H0 G (upd H a o) (ρ.set i w) σ:=by
 obtain ⟨a',u',e1,e2,e3⟩:=s.er.ownAt hu (Sl.own_of_pl ou)
 rw [ha] at e1;cases e1
 refine s.mutG hu (Sl.own_of_pl ou) (Sl.own_of_pl hw) ha (zu.refl _) (λb x e=>?_) (λb x e n=>by rw [n] at e;cases e) (λb x e n=>?_) ?_ λc m=>?_
 ·rw [zY (λz=>by rw [z,e2] at e;cases e)];exact s.bs.gh b x e
 ·rw [zG5 ou] at n
  rw [zY (λz=>n (List.mem_singleton.mpr z))];exact e
 ·cases w with
  |l xs=>obtain ⟨vs,h1,h2⟩:=hl xs rfl;exact ⟨vs,by rw [zR,h1],h2⟩
  |m xs=>obtain ⟨vs,h1,h2⟩:=hm xs rfl;exact ⟨vs,by rw [zR,h1],h2⟩
  |_=>cases hw
 ·rw [zG5 hw] at m
  cases List.mem_singleton.mp m
  exact ⟨.inl (by rw [zG5 ou];exact List.mem_singleton.mpr rfl),e2⟩
end
def frz (i:Nat) (ρ:Rho):Rho:=match ρ[i]? with
 |some (.l xs)=>ρ.set i (.v (.lst xs))
 |_=>ρ
section
variable {K:Fg} {G0 H0 G H G':Hp} {ρ:Rho} {σ:L2.St} {i:Nat}
theorem StR.frzG {a:Addr} {u:Sl} {d:D} (s:StR K G0 H0 G H ρ σ) (hu:ρ[i]?=some u) (ou:u.isOwn=true) (ha:σ[i]?=some (some (.ref a)))
  (hG:zu G G') (hGH:zu G' H) (hf:∀ b o,G' b=some o->G b=none->b∈fpS H u a) (hr:Rep K G' d (.ref a)):StR K G0 H0 G' H (ρ.set i (.v d)) σ:=by
 have off:∀ {j:Nat} {u':Sl} {b c:Addr},j≠i->ρ[j]?=some u'->u'.isObj=true->σ[j]?=some (some (.ref b))->c∈fpS H u' b->c∉fpS H u a:=λ{j u' b c} ne h o q m z=>
  s.er.sep i j u u' a b (Ne.symm ne) hu ou h o ha q c z m
 refine ⟨⟨by simpa using s.er.len,λj d' h=>?_,λj v h o=>?_,λj k v v' b b' ne h1 o1 h2 o2 q1 q2=>?_⟩,⟨hGH,s.bs.gg.trans hG,s.bs.hh,λb x e n=>?_⟩,λj v b h o q=>?_⟩
 ·rcases yF h with ⟨rfl,e,_⟩|⟨hj,h⟩
  ·cases e;exact ⟨_,ha,hr⟩
  ·obtain ⟨v,e1,e2⟩:=s.er.val j d' h;exact ⟨v,e1,Rep.mono hG _ _ e2⟩
 ·rcases yF h with ⟨rfl,e,_⟩|⟨hj,h⟩
  ·subst e;cases o
  ·obtain ⟨b,h1,h2,h3⟩:=s.er.slot j v h o
   refine ⟨b,h1,(h2.same hG λc m x z=>z).1,λc m=>?_⟩
   cases z:G' c with
   |none=>rfl
   |some x=>exact absurd (hf c x z (h3 c m)) (off hj h o h1 m)
 ·rcases yF h1 with ⟨rfl,e,_⟩|⟨hj,h1⟩
  ·subst e;cases o1
  rcases yF h2 with ⟨rfl,e,_⟩|⟨hk,h2⟩
  ·subst e;cases o2
  exact s.er.sep j k v v' b b' ne h1 o1 h2 o2 q1 q2
 ·cases q:G b with
  |some o'=>exact s.bs.fr b o' q n
  |none=>exact s.ows i u a hu ou ha b (hf b x e q)
 ·rcases yF h with ⟨rfl,e,_⟩|⟨hj,h⟩
  ·subst e;cases o
  ·exact s.ows j v b h o q
theorem StR.frz (i:Nat) (s:StR K G0 H0 G H ρ σ):∃ G',zu G G'/\StR K G0 H0 G' H (RD.frz i ρ) σ:=by
 have up:∀ {a:Addr} {o:HO} {u:Sl},u.isPl=true->H a=some o->G a=none->zu (upd G a o) H/\∀ b x,upd G a o b=some x->G b=none->b∈fpS H u a:=λ{a o u} hp h n=>by
  refine ⟨λb x e=>?_,λb x e k=>?_⟩
  ·by_cases z:b=a
   ·subst z;rw [zR] at e;cases e;exact h
   ·rw [zY z] at e;exact s.bs.gh b x e
  ·by_cases z:b=a
   ·subst z;rw [zG5 hp];exact List.mem_singleton.mpr rfl
   ·rw [zY z,k] at e;cases e
 unfold RD.frz
 split
 ·rename_i xs h
  obtain ⟨a,vs,h1,h2,h3,h4⟩:=s.er.own i xs h
  have hG:zu G (upd G a (.lst vs)):=yq h2
  exact ⟨_,hG,s.frzG h rfl h1 hG (up (u:=.l xs) rfl h3 h2).1 (up (u:=.l xs) rfl h3 h2).2 (zAy.mpr ⟨a,vs,rfl,SqL.of zR,Reps.mono hG _ _ h4⟩)⟩
 ·exact ⟨G,zu.refl _,s⟩
end
inductive zBu (K:Fg) (G H:Hp):D->V->Prop where
 |fr {d:D} {v:V}:Rep K G d v->zBu K G H d v
 |ow {xs:List D} {a:Addr} {vs:List V}:G a=none->H a=some (.lst vs)->Reps K G xs vs->zBu K G H (.lst xs) (.ref a)
theorem zBu.step {K:Fg} {G H G' H':Hp} {d:D} {v:V} (r:zBu K G H d v) (t:zg G H G' H'):zBu K G' H' d v:=by
 cases r with
 |fr r=>exact .fr (Rep.mono t.g _ _ r)
 |ow h1 h2 h3=>
  refine .ow ?_ (t.h _ _ h2) (Reps.mono t.g _ _ h3)
  rename_i a _
  cases q:G' a with
  |none=>rfl
  |some o=>have:=t.f a o q h1;rw [h2] at this;cases this
section
variable {K:Fg} {G H:Hp}
theorem zBu.list {xs:List D} {v:V} (r:zBu K G H (.lst xs) v) (s:zu G H):∃ a vs,v = .ref a/\SqL K H a vs/\Reps K G xs vs:=by
 cases r with
 |fr r=>obtain ⟨a,vs,e,q,t⟩:=zAy.mp r;exact ⟨a,vs,e,s.seq q,t⟩
 |ow h1 h2 h3=>exact ⟨_,_,rfl,SqL.of h2,h3⟩
theorem zBu.rep (r:zBu K G H d v) (h:∀ xs,d≠.lst xs):Rep K G d v:=by
 cases r with
 |fr r=>exact r
 |ow _ _ _=>exact absurd rfl (h _)
theorem zBu.int {i:Int} {v:V} (r:zBu K G H (.int i) v):v = .int i:=yB.mp (r.rep λ_ z=>by cases z)
theorem zBu.bl {b:Bool} {v:V} (r:zBu K G H (.bl b) v):v = .bl b:=yT.mp (r.rep λ_ z=>by cases z)
theorem zBu.str {x:Str} {v:V} (r:zBu K G H (.str x) v):v = .str x:=zAU.mp (r.rep λ_ z=>by cases z)
theorem zBu.non {v:V} (r:zBu K G H .non v):v = .non:=zBM.mp (r.rep λ_ z=>by cases z)
theorem zBu.tup {xs:List D} {v:V} (r:zBu K G H (.tup xs) v) (s:zu G H):∃ a vs,v = .ref a/\SqT K H a vs/\Reps K G xs vs:=by
 obtain ⟨a,vs,e,q,t⟩:=zDU (r.rep λ_ z=>by cases z)
 exact ⟨a,vs,e,qt s q,t⟩
end
def tE (K:Fg) (f:ROd):TE:=λσ H Q=>∃ G ρ d,zu G H/\Er K G H ρ σ/\f ρ=some d/\∀ v G' H',zg G H G' H'->Rep K G' d v->Q v H'
def tR (K:Fg) (f:ROd):TE:=λσ H Q=>∃ G ρ d,zu G H/\Er K G H ρ σ/\f ρ=some d/\∀ v G' H',zg G H G' H'->zBu K G' H' d v->Q v H'
def tF (K:Fg) (f:ROl):TE:=λσ H Q=>∃ G ρ xs,zu G H/\Er K G H ρ σ/\f ρ=some xs /\
 ∀ a vs G' H',zg G H G' H'->H a=none->G' a=none->H' a=some (.lst vs)->Reps K G' xs vs->Q (.ref a) H'
def tTs (K:Fg) (f:ROb):TT:=λσ H Q=>∃ G ρ b,zu G H/\Er K G H ρ σ/\f ρ=some b/\∀ G' H',zg G H G' H'->Q b H'
def tAs (K:Fg) (f:ROl):TA:=λσ H Q=>∃ G ρ ds,zu G H/\Er K G H ρ σ/\f ρ=some ds/\∀ vs G' H',zg G H G' H'->Reps K G' ds vs->Q vs H'
abbrev SE (X:Cx) (e:Expr) (f:ROd):Prop:=PE X e (tE X.K f)
abbrev SR (X:Cx) (e:Expr) (f:ROd):Prop:=PE X e (tR X.K f)
abbrev SF (X:Cx) (e:Expr) (f:ROl):Prop:=PE X e (tF X.K f)
abbrev SB (X:Cx) (e:Expr) (f:ROb):Prop:=PT X e (tTs X.K f)
structure SA (X:Cx) (es:List Expr) (f:ROl):Prop where
 pa:PA X es (tAs X.K f)
 len:∀ ρ ds,f ρ=some ds->ds.length=es.length
theorem zBo {X:Cx} {e:Expr} {t t':TE} (h:PE X e t) (w:∀ σ H Q,t' σ H Q->t σ H Q):PE X e t':=λpins s σ H Q I q=>h pins s σ H Q I (w σ H Q q)
theorem zH3 {X:Cx} {e:Expr} {t t':TT} (h:PT X e t) (w:∀ σ H Q,t' σ H Q->t σ H Q):PT X e t':=λpins s σ H Q I q=>h pins s σ H Q I (w σ H Q q)
theorem zJs (h:PA X e t) (w:∀ σ H Q,t' σ H Q->t σ H Q):PA X e t':=λpos pins s σ H Q I q=>h pos pins s σ H Q I (w σ H Q q)
theorem qN (h:PS X e t) (w:∀ Q σ H,t' Q σ H->t Q σ H):PS X e t':=λpins s σ H Q I q=>h pins s σ H Q I (w Q σ H q)
theorem zG6 (h:PSs X e t) (w:∀ Q σ H,t' Q σ H->t Q σ H):PSs X e t':=λpins s σ H Q I q=>h pins s σ H Q I (w Q σ H q)
section
variable {X:Cx} {e a b:Expr} {es:List Expr} {f g:ROd} {fl:ROl} {pos:Pos}
theorem zE (h:SE X e f):SR X e f:=zBo h λσ H Q ⟨G,ρ,d,s,er,ef,k⟩=>⟨G,ρ,d,s,er,ef,λv G' H' t r=>k v G' H' t (.fr r)⟩
theorem zOs {a:Addr} {vs:List V} (t:zg G H G' H') (h1:H a=none) (h2:G' a=none) (h3:H' a=some (.lst vs)):zg G H (upd G' a (.lst vs)) H':=
 ⟨t.g.trans (yq h2),t.h,λb u e=>by
  by_cases z:b=a
  ·subst z;rw [zR] at e;cases e;exact h3
  ·rw [zY z] at e;exact t.s b u e,λb u e n=>by
  by_cases z:b=a
  ·subst z;exact h1
  ·rw [zY z] at e;exact t.f b u e n⟩
theorem zV (h:SF X e fl):SE X e (λρ=>(fl ρ).map D.lst):=zBo h λσ H Q=>by
 rintro ⟨G,ρ,d,s,er,ef,k⟩
 obtain ⟨xs,e1,rfl⟩:=Option.map_eq_some_iff.mp ef
 refine ⟨G,ρ,xs,s,er,e1,λa vs G' H' t h1 h2 h3 r=>?_⟩
 exact k (.ref a) (upd G' a (.lst vs)) H' (zOs t h1 h2 h3) (zAy.mpr ⟨a,vs,rfl,SqL.of zR,Reps.mono (yq h2) _ _ r⟩)
noncomputable def zP4 (ρ:Rho) (i:Nat):Option D:=match ρ[i]? with
 |some (.v d)=>some d
 |_=>none
noncomputable def zNL (ρ:Rho) (i:Nat):Option D:=match ρ[i]? with
 |some (.v d)=>some d
 |some (.l xs)=>some (.lst xs)
 |_=>none
abbrev gV (i:Nat):Rho->Option D:=λρ=>zP4 ρ i
abbrev gR (i:Nat):Rho->Option D:=λρ=>zNL ρ i
abbrev zN (n:Int):Rho->Option D:=λ_=>some (D.int n)
abbrev zP:Rho->Option (List D):=λ_=>some []
theorem zP5 {ρ:Rho} (h:zP4 ρ i=some d):ρ[i]?=some (.v d):=by
 unfold zP4 at h
 split at h
 ·cases h;assumption
 ·cases h
theorem zKw {ρ:Rho} (h:zNL ρ i=some d):ρ[i]?=some (.v d)\/∃ xs,d = .lst xs/\ρ[i]?=some (.l xs):=by
 unfold zNL at h
 split at h
 ·cases h;left;assumption
 ·cases h;right;exact ⟨_,rfl,by assumption⟩
 ·cases h
theorem zD (i:Nat) (h:PE X e (zDq i)):SE X e (gV i):=zBo h λσ H Q=>by
 rintro ⟨G,ρ,d,s,er,ef,k⟩
 obtain ⟨v,e1,r⟩:=er.val i d (zP5 ef)
 exact ⟨v,e1,k v G H (zg.refl s) r⟩
theorem zB (i:Nat) (h:PE X e (zDq i)):SR X e (gR i):=zBo h λσ H Q=>by
 rintro ⟨G,ρ,d,s,er,ef,k⟩
 rcases zKw ef with ef1|⟨xs,rfl,ef1⟩
 ·obtain ⟨v,e1,r⟩:=er.val i d ef1
  exact ⟨v,e1,k v G H (zg.refl s) (.fr r)⟩
 ·obtain ⟨a,vs,e1,e2,e3,e4⟩:=er.own i xs ef1
  exact ⟨_,e1,k _ G H (zg.refl s) (.ow e2 e3 e4)⟩
theorem zED (h:PE X e (tC v)) (r:∀ K G,Rep K G d v):SE X e (λ_=>some d):=zBo h λσ H Q=>by
 rintro ⟨G,ρ,d',s,er,ef,k⟩
 cases ef
 exact k v G H (zg.refl s) (r _ _)
theorem zF {i j}:SE X (.Constant (.int i) j pos) (λ_=>some (.int i)):=zED zR1 λ_ _=>yB.mpr rfl
theorem zG7 {i j}:SE X (.Constant (.bool i) j pos) (λ_=>some (.bl i)):=zED pe_bl λ_ _=>yT.mpr rfl
theorem zDw {j}:SE X (.Constant .none j pos) (λ_=>some .non):=zED zOh λ_ _=>zBM.mpr rfl
theorem zn {i j}:SE X (.Constant (.str i) j pos) (λ_=>some (.str i)):=zED zOi λ_ _=>zAU.mpr rfl
def rD (K:Fg) (op:D->D->Option D):R2:=λx y H Q=>∃ G dx dy d,zu G H/\zBu K G H dx x/\zBu K G H dy y/\op dx dy=some d/\∀ v G' H',zg G H G' H'->Rep K G' d v->Q v H'
noncomputable def b2 (f g:ROd) (op:D->D->Option D):ROd:=λρ=>(f ρ).bind λx=>(g ρ).bind λy=>op x y
theorem zNM {K:Fg} {op:D->D->Option D} {σ:L2.St} {H:Hp} {Q:VK} (h:tE K (b2 f g op) σ H Q):tOp (rD K op) (tR K f) (tR K g) σ H Q:=by
 obtain ⟨G,ρ,d,s,er,ef,k⟩:=h
 obtain ⟨x,e1,ef⟩:=Option.bind_eq_some_iff.mp ef
 obtain ⟨y,e2,ef⟩:=Option.bind_eq_some_iff.mp ef
 refine ⟨G,ρ,x,s,er,e1,λv1 G1 H1 t1 r1=>⟨G1,ρ,y,t1.s,er.step t1,e2,λv2 G2 H2 t2 r2=>?_⟩⟩
 exact ⟨G2,x,y,d,t2.s,r1.step t2,r2,ef,λv G' H' t r=>k v G' H' ((t1.trans t2).trans t) r⟩
theorem za {o2:D->D->Option D} (ho:OpR X (binaryOp op) (rD X.K o2)) (ha:SR X a f) (hb:SR X b g):SE X (.BinOp a op b pos) (b2 f g o2):=zBo (zSC ho ha hb) λ_ _ _ h=>zNM h
theorem zDx {o2:D->D->Option D} (ho:OpR X (compareOp op) (rD X.K o2)) (ha:SR X a f) (hb:SR X b g) (hm:behindInMarks op b=false):SE X (.Compare a [op] [b] pos) (b2 f g o2):=zBo (zKd ho ha hb hm) λ_ _ _ h=>zNM h
def asB:D->Option Bool
 |.bl b=>some b
 |_=>none
noncomputable def bB (f:ROd):ROb:=λρ=>(f ρ).bind asB
theorem zG8 {d:D} {b:Bool} (h:asB d=some b):d = .bl b:=by
 cases d<;>first|(cases h;rfl)|cases h
theorem z8 {op:CmpOp} {o2:D->D->Option D} (ho:OpR X (compareOp op) (rD X.K o2)) (ha:SR X a f) (hb:SR X b g) (hm:behindInMarks op b=false):SB X (.Compare a [op] [b] pos) (bB (b2 f g o2)):=
 zH3 (zHx ho ha hb hm) λσ H Q=>by
  rintro ⟨G,ρ,d,s,er,ef,k⟩
  obtain ⟨x,e1,e2⟩:=Option.bind_eq_some_iff.mp ef
  have e3:=zG8 e2
  subst e3
  exact zNM ⟨G,ρ,_,s,er,e1,λv G' H' t r=>⟨d,yT.mp r,k G' H' t⟩⟩
def b3 (f g h:ROd) (o1 o2:D->D->Option D):ROd:=λρ=>(f ρ).bind λx=>(g ρ).bind λy=>(o1 x y).bind λz=>(asB z).bind λk=>if k=true then (h ρ).bind λw=>o2 y w else some (.bl false)
noncomputable def zP6 (f g:ROb):ROb:=λρ=>(f ρ).bind λb=>if b=true then g ρ else some false
noncomputable def bOr (f g:ROb):ROb:=λρ=>(f ρ).bind λb=>if b=true then some true else g ρ
noncomputable def zOt (f:ROb):ROb:=λρ=>(f ρ).map (!·)
abbrev SW (X:Cx) (e:Expr) (f:ROb):Prop:=PW X e (tTs X.K f)
theorem zSU (h:PW X e t) (w:∀ σ H Q,t' σ H Q->t σ H Q):PW X e t':=λwh pins s σ H Q I q=>h wh pins s σ H Q I (w σ H Q q)
theorem zRn {f:ROb} (h:SW X e f):SB X e f:=h.pt
variable {p q:ROb} {rest:List Expr}
theorem zGC (ha:SB X a p):SW X (.BoolOp .And [a] pos) p:=zKW ha
theorem zOu (ha:SB X a p):SW X (.BoolOp .Or [a] pos) p:=zR3 ha
theorem zG9 (ha:SB X a p) (hb:SW X (.BoolOp .And (b::rest) pos) q):SW X (.BoolOp .And (a::b::rest) pos) (zP6 p q):=
 zSU (zKX ha hb) λσ H Q=>by
  rintro ⟨G,ρ,d,s,er,ef,k⟩
  obtain ⟨c,e1,ef⟩:=Option.bind_eq_some_iff.mp ef
  refine ⟨G,ρ,c,s,er,e1,λG1 H1 t1=>?_⟩
  cases c with
  |false=>rw [if_neg Bool.false_ne_true] at ef ⊢;cases ef;exact k G1 H1 t1
  |true=>rw [if_pos rfl] at ef ⊢;exact ⟨G1,ρ,d,t1.s,er.step t1,ef,λG' H' t=>k G' H' (t1.trans t)⟩
theorem zP7 (ha:SB X a p) (hb:SW X (.BoolOp .Or (b::rest) pos) q):SW X (.BoolOp .Or (a::b::rest) pos) (bOr p q):=
 zSU (pw_or ha hb) λσ H Q=>by
  rintro ⟨G,ρ,d,s,er,ef,k⟩
  obtain ⟨c,e1,ef⟩:=Option.bind_eq_some_iff.mp ef
  refine ⟨G,ρ,c,s,er,e1,λG1 H1 t1=>?_⟩
  cases c with
  |true=>rw [if_pos rfl] at ef ⊢;cases ef;exact k G1 H1 t1
  |false=>rw [if_neg Bool.false_ne_true] at ef ⊢;exact ⟨G1,ρ,d,t1.s,er.step t1,ef,λG' H' t=>k G' H' (t1.trans t)⟩
theorem zFg (ha:SB X a p):SB X (.UnaryOp .Not a pos) (zOt p):=zH3 (zOk ha) λσ H Q=>by
 rintro ⟨G,ρ,d,s,er,ef,k⟩
 obtain ⟨c,e1,rfl⟩:=Option.map_eq_some_iff.mp ef
 exact ⟨G,ρ,c,s,er,e1,λG1 H1 t1=>k G1 H1 t1⟩
def truD:D->Option Bool
 |.non=>some false
 |.bl b=>some b
 |.int i=>some (i != 0)
 |.str x=>if x.length<=sizeLine then some ((x.length:Int) != 0) else none
 |.tup xs=>some (!xs.isEmpty)
 |.lst xs=>some (!xs.isEmpty)
theorem zFh {K:Fg} {G:Hp} {xs:List D} {vs:List V} (h:Reps K G xs vs):xs.isEmpty=vs.isEmpty:=by
 have:=h.length
 cases xs<;>cases vs<;>simp_all
noncomputable def zKJ (f:ROd):ROb:=λρ=>(f ρ).bind truD
theorem zCN (ha:SR X a f) (he:∀ whole,isTrue a X.env whole=(do let v <- whole;standAt a.pos;holding [v] (truthy v)):=by intro _;rfl):SB X a (zKJ f):=
 zH3 (zNB ha he) λσ H Q=>by
  rintro ⟨G,ρ,b,s,er,ef,k⟩
  obtain ⟨d,e1,ef⟩:=Option.bind_eq_some_iff.mp ef
  refine ⟨G,ρ,d,s,er,e1,λv G1 H1 t1 r1=>⟨b,?_,k G1 H1 t1⟩⟩
  cases d with
  |non=>cases ef;rw [r1.non];exact rfl
  |bl c=>cases ef;rw [r1.bl];exact rfl
  |int c=>cases ef;rw [r1.int];exact rfl
  |str c=>
   simp only [truD] at ef
   split at ef
   ·rename_i h;cases ef;rw [r1.str];exact ⟨h,rfl⟩
   ·cases ef
  |tup xs=>cases ef;obtain ⟨a,vs,rfl,q,r⟩:=r1.tup t1.s;exact .inr (.inl ⟨vs,q,by rw [zFh r]⟩)
  |lst xs=>cases ef;obtain ⟨a,vs,rfl,q,r⟩:=r1.list t1.s;exact .inl ⟨vs,q,by rw [zFh r]⟩
def zOv (f g:ROd):ROd:=λρ=>(f ρ).bind λx=>(asB x).bind λb=>if b=true then g ρ else some (.bl false)
def vOr (f g:ROd):ROd:=λρ=>(f ρ).bind λx=>(asB x).bind λb=>if b=true then some (.bl true) else g ρ
theorem zIu {op} (h:SE X a f):SE X (.BoolOp op [a] pos) f:=zR4 h
theorem zKx (ha:SE X a f) (hb:SE X (.BoolOp .And (b::rest) pos) g):SE X (.BoolOp .And (a::b::rest) pos) (zOv f g):=
 zBo (zR5 ha hb) λσ H Q=>by
  rintro ⟨G,ρ,d,s,er,ef,k⟩
  obtain ⟨x,e1,ef1⟩:=Option.bind_eq_some_iff.mp ef
  obtain ⟨c,e2,ef2⟩:=Option.bind_eq_some_iff.mp ef1
  have e3:=zG8 e2
  subst e3
  refine ⟨G,ρ,_,s,er,e1,λv1 G1 H1 t1 r1=>⟨c,yT.mp r1,?_⟩⟩
  cases c with
  |false=>rw [if_neg Bool.false_ne_true] at ef2 ⊢;cases ef2;exact k _ G1 H1 t1 (yT.mpr rfl)
  |true=>rw [if_pos rfl] at ef2 ⊢;exact ⟨G1,ρ,d,t1.s,er.step t1,ef2,λv G' H' t r=>k v G' H' (t1.trans t) r⟩
theorem se_or (ha:SE X a f) (hb:SE X (.BoolOp .Or (b::rest) pos) g):SE X (.BoolOp .Or (a::b::rest) pos) (vOr f g):=
 zBo (pe_or ha hb) λσ H Q=>by
  rintro ⟨G,ρ,d,s,er,ef,k⟩
  obtain ⟨x,e1,ef1⟩:=Option.bind_eq_some_iff.mp ef
  obtain ⟨c,e2,ef2⟩:=Option.bind_eq_some_iff.mp ef1
  have e3:=zG8 e2
  subst e3
  refine ⟨G,ρ,_,s,er,e1,λv1 G1 H1 t1 r1=>⟨c,yT.mp r1,?_⟩⟩
  cases c with
  |true=>rw [if_pos rfl] at ef2 ⊢;cases ef2;exact k _ G1 H1 t1 (yT.mpr rfl)
  |false=>rw [if_neg Bool.false_ne_true] at ef2 ⊢;exact ⟨G1,ρ,d,t1.s,er.step t1,ef2,λv G' H' t r=>k v G' H' (t1.trans t) r⟩
noncomputable def zC (f:ROd) (g:ROl):ROl:=λρ=>(f ρ).bind λx=>(g ρ).map λxs=>x::xs
theorem zG:SA X [] zP:=⟨zJs yp λσ H Q=>by rintro ⟨G,ρ,d,s,er,ef,k⟩;cases ef;exact k [] G H (zg.refl s) Reps.nil,λρ ds h=>by cases h;rfl⟩
theorem zA (ha:SE X e f) (hr:SA X es fl) (hs:stE X e es:=by rfl):SA X (e::es) (zC f fl):=by
 refine ⟨zJs (zt ha hr.pa hs) λσ H Q ⟨G,ρ,d,s,er,ef,k⟩=>?_,λρ ds h=>?_⟩
 ·obtain ⟨x,e1,ef⟩:=Option.bind_eq_some_iff.mp ef
  obtain ⟨xs,e2,rfl⟩:=Option.map_eq_some_iff.mp ef
  exact ⟨G,ρ,x,s,er,e1,λv1 G1 H1 t1 r1=>⟨G1,ρ,xs,t1.s,er.step t1,e2,λvs G2 H2 t2 r2=>k _ G2 H2 (t1.trans t2) (Reps.cons (Rep.mono t2.g _ _ r1) r2)⟩⟩
 ·obtain ⟨x,e1,ef⟩:=Option.bind_eq_some_iff.mp h
  obtain ⟨xs,e2,rfl⟩:=Option.map_eq_some_iff.mp ef
  rw [List.length_cons,List.length_cons,hr.len ρ xs e2]
theorem zAp (h:n<=1000):n<=sizeLine:=Nat.le_of_lt (zKu h)
theorem zT {x1} (h:SA X es fl) (hl:es.length<=1000:=by decide):SE X (.Tuple es x1 pos) (λρ=>(fl ρ).map D.tup):=zBo (zSJ h.pa) λσ H Q=>by
 rintro ⟨G,ρ,d,s,er,ef,k⟩
 obtain ⟨xs,e1,rfl⟩:=Option.map_eq_some_iff.mp ef
 refine ⟨G,ρ,xs,s,er,e1,λvs G1 H1 t1 r1=>⟨by rw [<- r1.length,h.len _ _ e1];exact zAp hl,λp hp=>?_⟩⟩
 exact k _ _ _ (t1.trans (zg.new t1.s hp)) (zBN.mpr ⟨p,vs,rfl,zR,Reps.mono (yq (t1.s.free hp)) _ _ r1⟩)
theorem yJ (h:SA X es fl) (hl:es.length<=1000:=by decide):SF X (.List es pos) fl:=zBo (zOm h.pa) λσ H Q=>by
 rintro ⟨G,ρ,xs,s,er,ef,k⟩
 refine ⟨G,ρ,xs,s,er,ef,λvs G1 H1 t1 r1=>⟨by rw [<- r1.length,h.len _ _ ef];exact zAp hl,λp hp=>?_⟩⟩
 exact k p vs G1 (upd H1 p (.lst vs)) (t1.trans (zg.newH t1.s hp)) (t1.h.free hp) (t1.s.free hp) zR r1
def spD (K:Fg) (f:List D->Option D) (n:Nat):Sp:=λvs H Q _=>∃ G ds d,zu G H/\Reps K G ds vs/\ds.length=n/\f ds=some d/\∀ v G' H',zg G H G' H'->Rep K G' d v->Q v H'
theorem zP8 {k n:Nat} {fa:Addr} {fd:FuncData} {ps:List Str} {F:List D->Option D} {x:Str} {p:Pos} (FO:zF8 X.prog X.w X.K X.mg X.base CX0 k fa fd ps (spD X.K F n)) (hr:zBn k X.A) (hg:Gl X x) (hm:X.mg x=some (.ref fa)) (hk:PySem.W.keepIn X.K (.ref fa)=true)
  (hb:zD8 X.K fd ps []) (hn:(e::es).length=n) (ha:SA X (e::es) fl) (hdb:nDb x:=by decide) (he:stE X e es:=by rfl)
  (hpl:zDv X pos es:=by rfl):SE X (.Call (.Name x p) (e::es) [] pos) (λρ=>(fl ρ).bind F):=
 zBo (zEZ (E:=E0) FO hr hg hm hk hb .nil zPz ha.pa hdb he hpl) λσ H Q=>by
  rintro ⟨G,ρ,d,s,er,ef,k⟩
  obtain ⟨xs,e1,e2⟩:=Option.bind_eq_some_iff.mp ef
  refine ⟨G,ρ,xs,s,er,e1,λvs G1 H1 t1 r1=>?_⟩
  show spD X.K F n (vs ++ []) H1 Q E0
  rw [List.append_nil]
  exact ⟨G1,xs,d,t1.s,r1,by rw [ha.len _ _ e1,hn],e2,λv G' H' t r=>k v G' H' (t1.trans t) r⟩
def cR (K:Fg) (op:D->Option D):List V->Hp->VK->Prop:=λxs H Q=>∃ G d1 d x,xs = [x]/\zu G H/\zBu K G H d1 x/\op d1=some d/\∀ v G' H',zg G H G' H'->Rep K G' d v->Q v H'
def cF (K:Fg) (op:D->Option (List D)):List V->Hp->VK->Prop:=λxs H Q=>∃ G d1 ys x,xs = [x]/\zu G H/\zBu K G H d1 x/\op d1=some ys /\
 ∀ a vs G' H',zg G H G' H'->H a=none->G' a=none->H' a=some (.lst vs)->Reps K G' ys vs->Q (.ref a) H'
variable {x:Str} {p1:Pos} {id T:String}
noncomputable def b1 (f:ROd) (op:D->Option D):ROd:=λρ=>(f ρ).bind op
theorem zSV {K:Fg} {op:D->Option D} {σ:L2.St} {H:Hp} {Q:VK} (h:tE K (b1 f op) σ H Q):tCB (cR K op) (zPj (tR K f) tNil) σ H Q:=by
 obtain ⟨G,ρ,d,s,er,ef,k⟩:=h
 obtain ⟨d1,e1,ef⟩:=Option.bind_eq_some_iff.mp ef
 exact ⟨G,ρ,d1,s,er,e1,λv1 G1 H1 t1 r1=>⟨G1,d1,d,v1,rfl,t1.s,r1,ef,λv G' H' t r=>k v G' H' (t1.trans t) r⟩⟩
noncomputable def b1F (f:ROd) (op:D->Option (List D)):ROl:=λρ=>(f ρ).bind op
theorem zOw {K:Fg} {op:D->Option (List D)} {σ:L2.St} {H:Hp} {Q:VK} (h:tF K (b1F f op) σ H Q):tCB (cF K op) (zPj (tR K f) tNil) σ H Q:=by
 obtain ⟨G,ρ,d,s,er,ef,k⟩:=h
 obtain ⟨d1,e1,ef⟩:=Option.bind_eq_some_iff.mp ef
 exact ⟨G,ρ,d1,s,er,e1,λv1 G1 H1 t1 r1=>⟨G1,d1,d,v1,rfl,t1.s,r1,ef,λa vs G' H' t h1 h2 h3 r=>k a vs G' H' (t1.trans t) (t1.h.free h1) h2 h3 r⟩⟩
theorem zw {op:D->Option D} (hc:zAT X (.builtin id) (cR X.K op)) (hg:Gl X x) (hm:X.mg x=none) (hv:bootBuiltins x=some (.builtin id)) (ha:SR X a f) (hn:x ≠ "__name__":=by decide) (hdb:nDb x:=by decide)
  (hs:stE X a []:=by rfl) (he:stE X a []:=by rfl) (hpl:zDv X pos []:=by rfl):SE X (.Call (.Name x p1) [a] [] pos) (b1 f op):=
 zBo (zAJ hc hg hm hv (zt ha yp hs) hn hdb he hpl) λ_ _ _ h=>zSV h
theorem yC {op:D->Option D} (hc:zAT X (.type T) (cR X.K op)) (hg:Gl X x) (hm:X.mg x=none) (hv:bootBuiltins x=some (.type T)) (ha:SR X a f) (hn:x ≠ "__name__":=by decide) (hdb:nDb x:=by decide)
  (hs:stE X a []:=by rfl) (he:stE X a []:=by rfl) (hpl:zDv X pos []:=by rfl):SE X (.Call (.Name x p1) [a] [] pos) (b1 f op):=
 zBo (zEa hc hg hm hv (zt ha yp hs) hn hdb he hpl) λ_ _ _ h=>zSV h
theorem zEE {op:D->Option (List D)} (hc:zAT X (.builtin id) (cF X.K op)) (hg:Gl X x) (hm:X.mg x=none) (hv:bootBuiltins x=some (.builtin id)) (ha:SR X a f) (hn:x ≠ "__name__":=by decide) (hdb:nDb x:=by decide)
  (hs:stE X a []:=by rfl) (he:stE X a []:=by rfl) (hpl:zDv X pos []:=by rfl):SF X (.Call (.Name x p1) [a] [] pos) (b1F f op):=
 zBo (zAJ hc hg hm hv (zt ha yp hs) hn hdb he hpl) λ_ _ _ h=>zOw h
theorem zEe {op:D->Option (List D)} (hc:zAT X (.type T) (cF X.K op)) (hg:Gl X x) (hm:X.mg x=none) (hv:bootBuiltins x=some (.type T)) (ha:SR X a f) (hn:x ≠ "__name__":=by decide) (hdb:nDb x:=by decide)
  (hs:stE X a []:=by rfl) (he:stE X a []:=by rfl) (hpl:zDv X pos []:=by rfl):SF X (.Call (.Name x p1) [a] [] pos) (b1F f op):=
 zBo (zEa hc hg hm hv (zt ha yp hs) hn hdb he hpl) λ_ _ _ h=>zOw h
end
inductive Out where
 |nx (ρ:Rho)|rt (d:D)|bk (ρ:Rho)|ct (ρ:Rho)
  |ro (s:Sl)
  |rm (d:D) (ρ:Rho)
abbrev ROo:=Rho->Option Out
def zRo (K:Fg) (G0 H0:Hp) (E:zKS):Out->Prop
 |.nx ρ=>∀ σ G H,StR K G0 H0 G H ρ σ->E.nx σ H
 |.bk ρ=>∀ σ G H,StR K G0 H0 G H ρ σ->E.bk σ H
 |.ct ρ=>∀ σ G H,StR K G0 H0 G H ρ σ->E.ct σ H
 |.rt d=>∀ v G H,Bs G0 H0 G H->Rep K G d v->E.rt v H
 |.ro s=>∀ a G H,Bs G0 H0 G H->zKI K G H s a->(∀ c∈fpS H s a,G c=none/\H0 c=none)->E.rt (.ref a) H
 |.rm d ρ=>∀ v σ G H,StR K G0 H0 G H ρ σ->Rep K G d v->E.rt v H
def tS (K:Fg) (F:ROo):TS:=λE σ H=>∃ G0 H0 G ρ o,StR K G0 H0 G H ρ σ/\F ρ=some o/\zRo K G0 H0 E o
abbrev SS (X:Cx) (s:Stmt) (F:ROo):Prop:=PS X s (tS X.K F)
abbrev SSs (X:Cx) (s:List Stmt) (F:ROo):Prop:=PSs X s (tS X.K F)
section
variable {X:Cx} {e a b:Expr} {es:List Expr} {f g:ROd} {fl:ROl} {p:ROb} {pos:Pos} {F F':ROo} {st:Stmt} {rest:List Stmt}
noncomputable def sq (F F':ROo):ROo:=λρ=>(F ρ).bind λo=>match o with
 |.nx ρ'=>F' ρ'
 |o=>some o
theorem yA:SSs X [] (λρ=>some (.nx ρ)):=zG6 zKY λQ σ H=>by rintro ⟨G0,H0,G,ρ,o,st,ef,k⟩;cases ef;exact k σ G H st
theorem zH (h1:SS X st F) (h2:SSs X rest F'):SSs X (st::rest) (sq F F'):=zG6 (zIn h1 h2) λQ σ H=>by
 rintro ⟨G0,H0,G,ρ,o,st,ef,k⟩
 obtain ⟨o1,e1,e2⟩:=Option.bind_eq_some_iff.mp ef
 refine ⟨G0,H0,G,ρ,o1,st,e1,?_⟩
 cases o1 with
 |nx ρ'=>exact λσ' G' H' st'=>⟨G0,H0,G',ρ',o,st',e2,k⟩
 |rt d=>cases e2;exact k
 |ro d=>cases e2;exact k
 |rm d ρ=>cases e2;exact k
 |bk d=>cases e2;exact k
 |ct d=>cases e2;exact k
theorem zL (h1:SS X st F):SSs X [st] F:=zF7 h1
theorem zOx (i:Nat) (h:SSs X rest F):SSs X rest (λρ=>F (frz i ρ)):=zG6 h λQ σ H=>by
 rintro ⟨G0,H0,G,ρ,o,st,ef,k⟩
 obtain ⟨G',sG,st'⟩:=st.frz i
 exact ⟨G0,H0,G',frz i ρ,o,st',ef,k⟩
theorem zP9:SS X (.Continue pos) (λρ=>some (.ct ρ)):=qN zHw λQ σ H=>by rintro ⟨G0,H0,G,ρ,o,st,ef,k⟩;cases ef;exact k σ G H st
noncomputable def zAV (f:ROd):ROo:=λρ=>(f ρ).map .rt
theorem z7 (he:SE X e f):SS X (.Return (some e) pos) (zAV f):=qN (zIo he) λQ σ H=>by
 rintro ⟨G0,H0,G,ρ,o,st,ef,k⟩
 obtain ⟨d,e1,rfl⟩:=Option.map_eq_some_iff.mp ef
 exact ⟨G,ρ,d,st.bs.gh,st.er,e1,λv G' H' t r=>k v G' H' (st.bs.step t) r⟩
theorem zKy (i:Nat) (he:PE X e (zDq i)):SS X (.Return (some e) pos) (zAV λρ=>zNL ρ i):=qN (zIo he) λQ σ H=>by
 rintro ⟨G0,H0,G,ρ,o,st,ef,k⟩
 obtain ⟨d,e1,rfl⟩:=Option.map_eq_some_iff.mp ef
 rcases zKw e1 with e3|⟨xs,rfl,e3⟩
 ·obtain ⟨v,q,r⟩:=st.er.val i d e3
  exact ⟨v,q,k v G H st.bs r⟩
 ·obtain ⟨G',sG,st'⟩:=st.frz i
  have e2:frz i ρ=ρ.set i (.v (.lst xs)):=by unfold frz;rw [e3]
  rw [e2] at st'
  obtain ⟨v,q,r⟩:=st'.er.val i (.lst xs) (List.getElem?_set_self (List.getElem?_eq_some_iff.mp e3).1)
  exact ⟨v,q,k v G' H st'.bs r⟩
noncomputable def sIf (c:ROb) (F F':ROo):ROo:=λρ=>(c ρ).bind λb=>if b=true then F ρ else F' ρ
theorem qA (hc:SB X c p) (ha:SSs X A F) (hb:SSs X B F'):SS X (.If c A B pos) (sIf p F F'):=qN (zPd hc ha hb) λQ σ H=>by
 rintro ⟨G0,H0,G,ρ,o,st,ef,k⟩
 obtain ⟨d,e1,e2⟩:=Option.bind_eq_some_iff.mp ef
 refine ⟨G,ρ,d,st.bs.gh,st.er,e1,λG' H' t=>?_⟩
 cases d with
 |true=>rw [if_pos rfl] at e2 ⊢;exact ⟨G0,H0,G',ρ,o,st.step t,e2,k⟩
 |false=>rw [if_neg Bool.false_ne_true] at e2 ⊢;exact ⟨G0,H0,G',ρ,o,st.step t,e2,k⟩
noncomputable def qJ (i:Nat) (f:ROd):ROo:=λρ=>(f ρ).map λd=>.nx (ρ.set i (.v d))
noncomputable def qG (i:Nat) (f:ROl):ROo:=λρ=>(f ρ).map λd=>.nx (ρ.set i (.l d))
variable {i:Nat} {x:Str} {pos':Pos}
theorem zd (i:Nat) (he:SE X e f) (hN:X.N.Nodup) (hi:X.N[i]?=some x) (hx:Loc X.env.scope x) (hs:zGB X e (some (.Name x pos')) pos:=by rfl)
  (hf:fnL X x:=by first|exact .inl rfl|exact .inr rfl|assumption):SS X (.Assign [.Name x pos'] e pos) (qJ i f):=
 qN (zCM hN hi hx he hs hf) λQ σ H=>by
  rintro ⟨G0,H0,G,ρ,o,st,ef,k⟩
  obtain ⟨d,e1,rfl⟩:=Option.map_eq_some_iff.mp ef
  exact ⟨G,ρ,d,st.bs.gh,st.er,e1,λv G' H' t r=>k _ G' H' ((st.step t).setV r)⟩
theorem yQ (i:Nat) (he:SF X e fl) (hN:X.N.Nodup) (hi:X.N[i]?=some x) (hx:Loc X.env.scope x) (hs:zGB X e (some (.Name x pos')) pos:=by rfl)
  (hf:fnL X x:=by first|exact .inl rfl|exact .inr rfl|assumption):SS X (.Assign [.Name x pos'] e pos) (qG i fl):=
 qN (zCM hN hi hx he hs hf) λQ σ H=>by
  rintro ⟨G0,H0,G,ρ,o,st,ef,k⟩
  obtain ⟨d,e1,rfl⟩:=Option.map_eq_some_iff.mp ef
  refine ⟨G,ρ,d,st.bs.gh,st.er,e1,λa vs G' H' t h1 h2 h3 r=>k _ G' H' (st.setOwn t rfl h1 h2 (λxs z=>?_) λ_ z=>by cases z)⟩
  cases z;exact ⟨vs,h3,r⟩
def tGt (K:Fg) (g:D->Rho->Option Rho):TG:=λv σ H Q=>∃ G0 H0 G ρ d ρ',StR K G0 H0 G H ρ σ/\Rep K G d v/\g d ρ=some ρ'/\∀ σ',StR K G0 H0 G H ρ' σ'->Q σ' H
def tGts (K:Fg) (g:List D->Rho->Option Rho):TGs:=λvs σ H Q=>∃ G0 H0 G ρ ds ρ',StR K G0 H0 G H ρ σ/\Reps K G ds vs/\g ds ρ=some ρ'/\∀ σ',StR K G0 H0 G H ρ' σ'->Q σ' H
abbrev SG (X:Cx) (e:Expr) (g:D->Rho->Option Rho):Prop:=PG X e (tGt X.K g)
abbrev SGs (X:Cx) (e:List Expr) (g:List D->Rho->Option Rho):Prop:=PGs X e (tGts X.K g)
theorem zSW (h:PG X e t) (w:∀ v σ H Q,t' v σ H Q->t v σ H Q):PG X e t':=λpins s σ H v u Q I r q=>h pins s σ H v u Q I r (w v σ H Q q)
theorem zOy {X:Cx} {e:List Expr} {t t':TGs} (h:PGs X e t) (w:∀ v σ H Q,t' v σ H Q->t v σ H Q):PGs X e t':=λpins s σ H v u Q I r q=>h pins s σ H v u Q I r (w v σ H Q q)
noncomputable def gN (i:Nat):D->Rho->Option Rho:=λd ρ=>some (ρ.set i (.v d))
theorem zW (i:Nat) (hN:X.N.Nodup) (hi:X.N[i]?=some x) (hx:Loc X.env.scope x) (hf:fnL X x:=by first|exact .inl rfl|exact .inr rfl|assumption):SG X (.Name x pos) (gN i):=
 zSW (zPe hN hi hx hf) λv σ H Q=>by
  rintro ⟨G0,H0,G,ρ,d,ρ',st,r,e,k⟩
  cases e
  exact k _ (st.setV r)
def gNl:List D->Rho->Option Rho:=λds ρ=>match ds with
 | []=>some ρ
 |_=>none
noncomputable def gCs (g:D->Rho->Option Rho) (gs:List D->Rho->Option Rho):List D->Rho->Option Rho:=λds ρ=>match ds with
 | []=>none
 |d::r=>(g d ρ).bind λρ'=>gs r ρ'
theorem zDV:SGs X [] gNl:=zOy zPf λv σ H Q=>by
 rintro ⟨G0,H0,G,ρ,ds,ρ',st,r,e,k⟩
 cases ds with
 |nil=>cases e;exact ⟨yf.mp r,k σ st⟩
 |cons _ _=>cases e
theorem qK {gd:D->Rho->Option Rho} {gs:List D->Rho->Option Rho} (h1:SG X e gd) (h2:SGs X es gs) (hs:(assignEach (e::es) X.env).map (·.2)=assign e X.env::(assignEach es X.env).map (·.2):=by rfl):SGs X (e::es) (gCs gd gs):=
 zOy (zM9 h1 h2 hs) λvs σ H Q=>by
  rintro ⟨G0,H0,G,ρ,ds,ρ',st,r,e,k⟩
  cases ds with
  |nil=>cases e
  |cons d ds=>
   obtain ⟨v,r',rfl,rd,rs⟩:=zm.mp r
   obtain ⟨ρ1,e1,e2⟩:=Option.bind_eq_some_iff.mp e
   exact ⟨v,r',rfl,G0,H0,G,ρ,d,ρ1,st,rd,e1,λσ' st'=>⟨G0,H0,G,ρ1,ds,ρ',st',rs,e2,k⟩⟩
noncomputable def gT (n:Nat) (gs:List D->Rho->Option Rho):D->Rho->Option Rho:=λd ρ=>match d with
 |.tup ds=>if ds.length=n then gs ds ρ else none
 |_=>none
theorem zFi {gs:List D->Rho->Option Rho} (hc:X.calm=true) (h:SGs X es gs) (hn:(assignEach es X.env).length=n:=by rfl) (hst:(assignEach es X.env).findIdx? (·.1)=none:=by rfl):SG X (.Tuple es k pos) (gT n gs):=
 zSW (zR7 hc h hn hst) λv σ H Q=>by
  rintro ⟨G0,H0,G,ρ,d,ρ',st,r,e,k⟩
  cases d with
  |tup ds=>
   simp only [gT] at e
   split at e
   ·rename_i hl
    obtain ⟨a,vs,rfl,q,rs⟩:=zDU r
    exact ⟨a,vs,rfl,qt st.bs.gh q,by rw [<- rs.length];exact hl,G0,H0,G,ρ,ds,ρ',st,rs,e,k⟩
   ·cases e
  |_=>cases e
noncomputable def zRp (f:ROd) (g:D->Rho->Option Rho):ROo:=λρ=>(f ρ).bind λd=>(g d ρ).map .nx
theorem zOz {gd:D->Rho->Option Rho} (he:SE X e f) (hg:SG X tg gd) (hs:swapsWithSole [tg] e pos.line X.env=pure false:=by rfl) (hw:swappedStores [tg] e X.env=pure none:=by rfl) (h1:(assignEach [tg] X.env).map (·.2) = [assign tg X.env]:=by rfl):SS X (.Assign [tg] e pos) (zRp f gd):=
 qN (zOl he hg hs hw h1) λQ σ H=>by
  rintro ⟨G0,H0,G,ρ,o,st,ef,k⟩
  obtain ⟨d,e1,e2⟩:=Option.bind_eq_some_iff.mp ef
  obtain ⟨ρ',e3,rfl⟩:=Option.map_eq_some_iff.mp e2
  exact ⟨G,ρ,d,st.bs.gh,st.er,e1,λv G' H' t r=>⟨G0,H0,G',ρ,d,ρ',st.step t,r,e3,λσ' st'=>k σ' G' H' st'⟩⟩
structure zM5 (K:Fg) (G:Hp) (J:It) (ds:List D):Prop where
 go:∀ i H,zu G H->i<ds.length->J.go i H
 stop:∀ i H,zu G H->ds.length<=i->J.stop i H
 yld:∀ i G1 H x H',zu G G1->zu G1 H->i<ds.length->J.yld i H x H'->∃ G2,zg G1 H G2 H'/\∀ d,ds[i]?=some d->Rep K G2 d x
def tI (K:Fg) (f:ROl):TI:=λσ H R=>∃ G ρ ds,zu G H/\Er K G H ρ σ/\f ρ=some ds/\∀ J G' H',zg G H G' H'->zM5 K G' J ds->R J H'
abbrev SI (X:Cx) (tg iter:Expr) (f:ROl):Prop:=PI X tg iter (tI X.K f)
theorem zNN (h:PI X tg e t) (w:∀ σ H Q,t' σ H Q->t σ H Q):PI X tg e t':=λpins s σ H Q I q=>h pins s σ H Q I (w σ H Q q)
noncomputable def zb (g:D->Rho->Option Rho) (F:ROo):List D->Rho->Option Out
 | [],ρ=>some (.nx ρ)
 |d::ds,ρ=>(g d ρ).bind λρ1=>(F ρ1).bind λo=>match o with
  |.nx ρ'=>zb g F ds ρ'
  |.ct ρ'=>zb g F ds ρ'
  |.bk ρ'=>some (.nx ρ')
  |.rt d=>some (.rt d)
  |.ro s=>some (.ro s)
  |.rm d ρ=>some (.rm d ρ)
noncomputable def zc (f:ROl) (g:D->Rho->Option Rho) (F:ROo):ROo:=λρ=>(f ρ).bind λds=>zb g F ds ρ
def q8 (H:Hp) (ρ:Rho) (σ:L2.St):Hp:=λb=>@ite _ (∃ (i:Nat) (s:Sl) (a:Addr),ρ[i]?=some s/\s.isOwn=true/\σ[i]?=some (some (.ref a))/\b∈fpS H s a) (Classical.propDecidable _) none (H b)
theorem zEf:zu (q8 H ρ σ) H:=λb o e=>by
 unfold q8 at e
 split at e
 ·cases e
 ·exact e
theorem zDW {ρ:Rho} {σ:L2.St} {b a:Addr} {i:Nat} {s:Sl} (h:ρ[i]?=some s) (o:s.isOwn=true) (q:σ[i]?=some (some (.ref a))) (m:b∈fpS H s a):q8 H ρ σ b=none:=by
 unfold q8
 rw [if_pos ⟨i,s,a,h,o,q,m⟩]
theorem StR.base {K:Fg} {G0 H0 G H:Hp} {ρ:Rho} {σ:L2.St} (s:StR K G0 H0 G H ρ σ):StR K G (q8 H ρ σ) G H ρ σ/\zu G0 G/\zu H0 (q8 H ρ σ):=by
 refine ⟨⟨s.er,⟨s.bs.gh,zu.refl _,zEf,λb o e n=>by rw [e] at n;cases n⟩,λi u a h o q c m=>zDW h o q m⟩,s.bs.gg,λb o e=>?_⟩
 unfold q8
 split
 ·rename_i h
  obtain ⟨i,u,a,h1,h2,h3,h4⟩:=h
  rw [s.ows i u a h1 h2 h3 b h4] at e;cases e
 ·exact s.bs.hh b o e
theorem Bs.back (f:∀ b o,G1 b=some o->G0 b=none->H0 b=none) (g:zu G0 G1) (h:zu H0 H1) (b:Bs G1 H1 G H):Bs G0 H0 G H:=
 ⟨b.gh,g.trans b.gg,h.trans b.hh,λc o e n=>by
  cases q:G1 c with
  |some o'=>exact f c o' q n
  |none=>exact h.free (b.fr c o e q)⟩
theorem StR.back {K:Fg} {G0 H0 G1 H1 G H:Hp} {ρ:Rho} {σ:L2.St} (f:∀ b o,G1 b=some o->G0 b=none->H0 b=none) (g:zu G0 G1) (h:zu H0 H1) (s:StR K G1 H1 G H ρ σ):StR K G0 H0 G H ρ σ:=
 ⟨s.er,s.bs.back f g h,λi u a q o p c m=>h.free (s.ows i u a q o p c m)⟩
theorem zRo.back {K:Fg} {G0 H0 G1 H1:Hp} {E:zKS} {o:Out} (f:∀ b o,G1 b=some o->G0 b=none->H0 b=none) (g:zu G0 G1) (h:zu H0 H1) (k:zRo K G0 H0 E o):zRo K G1 H1 E o:=by
 cases o with
 |nx ρ=>exact λσ G H s=>k σ G H (s.back f g h)
 |bk ρ=>exact λσ G H s=>k σ G H (s.back f g h)
 |ct ρ=>exact λσ G H s=>k σ G H (s.back f g h)
 |rt d=>exact λv G H b r=>k v G H (b.back f g h) r
 |ro s=>exact λa G H b r n=>k a G H (b.back f g h) r λc m=>⟨(n c m).1,h.free (n c m).2⟩
 |rm d ρ=>exact λv σ G H s r=>k v σ G H (s.back f g h) r
theorem qV {body:List Stmt} {gd:D->Rho->Option Rho} (hp:PassesOwn (model X.prog X.w) X.A X.env X.xe) (hc:X.calm=true) (hi:SI X tg iter fl) (hg:SG X tg gd) (hb:SSs X body F) (hs:∀ x,foldedSetIterable iter X.env x=pure x:=by intro _;rfl):SS X (.For tg iter body [] pos) (zc fl gd F):=
 qN (zSB hp hc hi hg hb hs) λE σ H=>by
  rintro ⟨G0,H0,G,ρ,o,st,ef,k⟩
  obtain ⟨ds,e1,e2⟩:=Option.bind_eq_some_iff.mp ef
  refine ⟨G,ρ,ds,st.bs.gh,st.er,e1,λJ G1 H1 t1 it=>?_⟩
  obtain ⟨st1,sg,sh⟩:=(st.step t1).base
  have k1:=k.back (st.step t1).bs.fr sg sh
  generalize hH:q8 H1 ρ σ=H1' at st1 k1 sh
  refine ⟨λi m σ' H'=>m=ds.length-i/\i<=ds.length/\∃ G' ρ',StR X.K G1 H1' G' H' ρ' σ'/\zb gd F (ds.drop i) ρ'=some o,⟨ds.length,by simp,Nat.zero_le _,G1,ρ,st1,by simpa using e2⟩,?_⟩
  rintro i m σ2 H2 ⟨rfl,hi,G2,ρ2,st2,ef2⟩
  by_cases hlt:i<ds.length
  ·right
   have ed:ds.drop i=ds[i]::ds.drop (i+1):=List.drop_eq_getElem_cons hlt
   rw [ed] at ef2
   obtain ⟨ρ3,e3,e4⟩:=Option.bind_eq_some_iff.mp ef2
   obtain ⟨o3,e5,e6⟩:=Option.bind_eq_some_iff.mp e4
   refine ⟨it.go i H2 (st2.bs.gg.trans st2.bs.gh) hlt,λσ' H'=>∃ G' ρ',StR X.K G1 H1' G' H' ρ' σ'/\zb gd F (ds.drop (i+1)) ρ'=some o,λσ' H' h=>⟨ds.length-(i+1),by omega,rfl,hlt,h⟩,λx H' y=>?_⟩
   obtain ⟨G3,t3,r3⟩:=it.yld i G2 H2 x H' st2.bs.gg st2.bs.gh hlt y
   refine ⟨G1,H1',G3,ρ2,ds[i],ρ3,st2.step t3,r3 _ (by simp [hlt]),e3,λσ4 st4=>⟨G1,H1',G3,ρ3,o3,st4,e5,?_⟩⟩
   cases o3 with
   |nx ρ'=>exact λσ5 G5 H5 st5=>⟨G5,ρ',st5,e6⟩
   |ct ρ'=>exact λσ5 G5 H5 st5=>⟨G5,ρ',st5,e6⟩
   |bk ρ'=>cases e6;exact k1
   |rt d=>cases e6;exact k1
   |ro d=>cases e6;exact k1
   |rm d ρ=>cases e6;exact k1
  ·left
   have e:i=ds.length:=by omega
   subst e
   rw [List.drop_length] at ef2
   cases ef2
   exact ⟨it.stop _ H2 (st2.bs.gg.trans st2.bs.gh) (Nat.le_refl _),k1 σ2 G2 H2 st2⟩
def zAA (c:ROb) (F:ROo):Nat->Rho->Option Out
 |0,_=>none
 |n+1,ρ=>(c ρ).bind λb=>if b=true then (F ρ).bind λo=>match o with
   |.nx ρ'=>zAA c F n ρ'
   |.ct ρ'=>zAA c F n ρ'
   |.bk ρ'=>some (.nx ρ')
   |.rt d=>some (.rt d)
   |.ro s=>some (.ro s)
   |.rm d ρ=>some (.rm d ρ)
  else some (.nx ρ)
theorem zGD (n:Nat) (hp:PassesOwn (model X.prog X.w) X.A X.env X.xe) (hc:SB X c p) (hb:SSs X body F):SS X (.While c body [] pos) (λρ=>zAA p F n ρ):=
 qN (zIp hp hc hb) λE σ H=>by
  rintro ⟨G0,H0,G,ρ,o,st,ef,k⟩
  refine ⟨λm σ' H'=>∃ G' ρ',StR X.K G0 H0 G' H' ρ' σ'/\zAA p F m ρ'=some o,⟨n,G,ρ,st,ef⟩,?_⟩
  rintro m σ2 H2 ⟨G2,ρ2,st2,ef2⟩
  cases m with
  |zero=>cases ef2
  |succ m=>
   obtain ⟨b,e1,e2⟩:=Option.bind_eq_some_iff.mp ef2
   refine ⟨G2,ρ2,b,st2.bs.gh,st2.er,e1,λG3 H3 t3=>?_⟩
   cases b with
   |false=>
    rw [if_neg Bool.false_ne_true] at e2 ⊢
    cases e2
    exact k σ2 G3 H3 (st2.step t3)
   |true=>
    rw [if_pos rfl] at e2 ⊢
    obtain ⟨o3,e5,e6⟩:=Option.bind_eq_some_iff.mp e2
    refine ⟨λσ' H'=>∃ G' ρ',StR X.K G0 H0 G' H' ρ' σ'/\zAA p F m ρ'=some o,λσ' H' h=>⟨m,Nat.lt_succ_self _,h⟩,G0,H0,G3,ρ2,o3,st2.step t3,e5,?_⟩
    cases o3 with
    |nx ρ'=>exact λσ5 G5 H5 st5=>⟨G5,ρ',st5,e6⟩
    |ct ρ'=>exact λσ5 G5 H5 st5=>⟨G5,ρ',st5,e6⟩
    |bk ρ'=>cases e6;exact k
    |rt d=>cases e6;exact k
    |ro d=>cases e6;exact k
    |rm d ρ=>cases e6;exact k
theorem zQA {K:Fg} {G:Hp} {a:Addr} {vs:List V} {ds:List D} (h:SqL K G a vs) (r:Reps K G ds vs):zM5 K G (Itl K a) ds where
 go:=λi H s hi=>⟨vs,vs[i]'(by rw [<- r.length];exact hi),s.seq h,by simp [<- r.length,hi]⟩
 stop:=λi H s hi=>⟨vs,s.seq h,by rw [<- r.length];exact hi⟩
 yld:=λi G1 H x H' s1 s hi y=>by
  obtain ⟨rfl,y⟩:=y
  refine ⟨G1,zg.refl s,λd e=>?_⟩
  obtain ⟨v,e1,e2⟩:=r.get e
  have:=y vs ((s1.trans s).seq h)
  rw [e1] at this;cases this
  exact Rep.mono s1 _ _ e2
theorem zSX {K:Fg} {G:Hp} {a:Addr} {vs:List V} {ds:List D} (h:SqT K G a vs) (r:Reps K G ds vs):zM5 K G (Itt K a) ds where
 go:=λi H s hi=>⟨vs,vs[i]'(by rw [<- r.length];exact hi),qt s h,by simp [<- r.length,hi]⟩
 stop:=λi H s hi=>⟨vs,qt s h,by rw [<- r.length];exact hi⟩
 yld:=λi G1 H x H' s1 s hi y=>by
  obtain ⟨rfl,y⟩:=y
  refine ⟨G1,zg.refl s,λd e=>?_⟩
  obtain ⟨v,e1,e2⟩:=r.get e
  have:=y vs (qt (s1.trans s) h)
  rw [e1] at this;cases this
  exact Rep.mono s1 _ _ e2
def rng (lo:Int) (n:Nat):List D:=(List.range n).map λ(i:Nat)=>D.int (lo+(i:Int))
theorem zO0 {K:Fg} {G:Hp} (lo:Int) (n:Nat):zM5 K G (L2.Itr lo n) (rng lo n) where
 go:=λi H s hi=>by show i<n;simpa [rng] using hi
 stop:=λi H s hi=>by show n<=i;simpa [rng] using hi
 yld:=λi G1 H x H' s1 s hi y=>by
  obtain ⟨rfl,rfl⟩:=y
  refine ⟨G1,zg.refl s,λd e=>?_⟩
  simp only [rng,List.getElem?_map,List.length_map,List.length_range] at e hi
  rw [List.getElem?_range hi] at e
  cases e
  exact yB.mpr rfl
def asL:D->Option (List D)
 |.lst xs=>some xs
 |_=>none
def asT:D->Option (List D)
 |.tup xs=>some xs
 |_=>none
noncomputable def iL (f:ROd):ROl:=λρ=>(f ρ).bind asL
noncomputable def iT (f:ROd):ROl:=λρ=>(f ρ).bind asT
variable {tg:Expr}
theorem zAz (h:SE X e f):SI X tg e (iL f):=zNN (zPh h) λσ H R=>by
 rintro ⟨G,ρ,ds,s,er,ef,k⟩
 obtain ⟨d,e1,e2⟩:=Option.bind_eq_some_iff.mp ef
 cases d with
 |lst xs=>
  cases e2
  refine ⟨G,ρ,_,s,er,e1,λv G' H' t r=>?_⟩
  obtain ⟨a,vs,rfl,q,rs⟩:=zAy.mp r
  exact ⟨a,rfl,⟨vs,t.s.seq q⟩,k _ G' H' t (zQA q rs)⟩
 |_=>cases e2
theorem zBv (h:SE X e f):SI X tg e (iT f):=zNN (zSA h) λσ H R=>by
 rintro ⟨G,ρ,ds,s,er,ef,k⟩
 obtain ⟨d,e1,e2⟩:=Option.bind_eq_some_iff.mp ef
 cases d with
 |tup xs=>
  cases e2
  refine ⟨G,ρ,_,s,er,e1,λv G' H' t r=>?_⟩
  obtain ⟨a,vs,rfl,q,rs⟩:=zDU r
  exact ⟨a,rfl,⟨vs,qt t.s q⟩,k _ G' H' t (zSX q rs)⟩
 |_=>cases e2
def inR (j:Int):Bool:=decide (-(2 ^ 62)<=j) && decide (j<2 ^ 62)
theorem zFj (h:inR j=true) : -(2 ^ 62)<=j/\j<2 ^ 62:=by simpa [inR] using h
noncomputable def iR1 (f:ROl):ROl:=λρ=>(f ρ).bind λds=>match ds with
 | [.int j]=>if inR j=true then some (rng 0 j.toNat) else none
 |_=>none
def iR2 (f:ROl):ROl:=λρ=>(f ρ).bind λds=>match ds with
 | [.int i,.int j]=>if (inR i && inR j)=true then some (rng i (j-i).toNat) else none
 |_=>none
theorem yr {p pos:Pos} (hg:Gl X "range") (hm:X.mg "range" = none) (ha:SA X [a] fl) (hs:starEach [a] X.env = [(false,eval a X.env)]:=by rfl):SI X tg (.Call (.Name "range" p) [a] [] pos) (iR1 fl):=
 zNN (zKa hg hm ha.pa hs) λσ H R=>by
  rintro ⟨G,ρ,ds,s,er,ef,k⟩
  obtain ⟨xs,e1,e2⟩:=Option.bind_eq_some_iff.mp ef
  split at e2
  ·rename_i j
   split at e2
   ·rename_i hj
    cases e2
    refine ⟨G,ρ,_,s,er,e1,λvs G' H' t r=>?_⟩
    obtain ⟨v,r',rfl,r1,r2⟩:=zm.mp r
    have:=yf.mp r2
    subst this
    exact ⟨j,by rw [yB.mp r1],(zFj hj).1,(zFj hj).2,k _ G' H' t (zO0 _ _)⟩
   ·cases e2
  ·cases e2
theorem zKz {p pos:Pos} (hg:Gl X "range") (hm:X.mg "range" = none) (ha:SA X [a,b] fl) (hs:starEach [a,b] X.env = [(false,eval a X.env),(false,eval b X.env)]:=by rfl) (hs2:starEach [b] X.env = [(false,eval b X.env)]:=by rfl):SI X tg (.Call (.Name "range" p) [a,b] [] pos) (iR2 fl):=
 zNN (zKb hg hm ha.pa hs hs2) λσ H R=>by
  rintro ⟨G,ρ,ds,s,er,ef,k⟩
  obtain ⟨xs,e1,e2⟩:=Option.bind_eq_some_iff.mp ef
  split at e2
  ·rename_i i j
   split at e2
   ·rename_i hj
    cases e2
    rw [Bool.and_eq_true] at hj
    refine ⟨G,ρ,_,s,er,e1,λvs G' H' t r=>?_⟩
    obtain ⟨v,r',rfl,r1,r2⟩:=zm.mp r
    obtain ⟨v',r'',rfl,r3,r4⟩:=zm.mp r2
    have:=yf.mp r4
    subst this
    exact ⟨i,j,by rw [yB.mp r1,yB.mp r3],⟨(zFj hj.1).1,(zFj hj.1).2,(zFj hj.2).1,(zFj hj.2).2⟩,k _ G' H' t (zO0 _ _)⟩
   ·cases e2
  ·cases e2
noncomputable def gL (ρ:Rho) (i:Nat):Option (List D):=match ρ[i]? with
 |some (.l xs)=>some xs
 |_=>none
theorem zNO {ρ:Rho} (h:gL ρ i=some xs):ρ[i]?=some (.l xs):=by
 unfold gL at h
 split at h
 ·cases h;assumption
 ·cases h
end
def zCg (N:List Str) (F:ROo) (ds:List D):Option D:=(F (ds.map Sl.v++List.replicate (N.length-ds.length) .un)).bind λo=>match o with
 |.rt d=>some d
 |.nx _=>some .non
 |_=>none
theorem zGE {K:Fg} {G H:Hp} {N:List Str} {ds:List D} {vs:List V} (r:Reps K G ds vs):Er K G H (ds.map Sl.v++List.replicate (N.length-ds.length) .un) (L2.zCf N vs):=by
 have hl:=r.length
 have low:∀ {i:Nat} {s:Sl},(ds.map Sl.v++List.replicate (N.length-ds.length) .un)[i]?=some s->s = .un\/∃ d,s = .v d/\ds[i]?=some d:=λ{i s} h=>by
  by_cases hi:i<ds.length
  ·rw [List.getElem?_append_left (by simpa using hi),List.getElem?_map] at h
   cases q:ds[i]? with
   |none=>rw [q] at h;cases h
   |some d=>rw [q] at h;cases h;exact .inr ⟨d,rfl,rfl⟩
  ·rw [List.getElem?_append_right (by simpa using hi),List.getElem?_replicate] at h
   split at h<;>cases h
   exact .inl rfl
 refine ⟨by simp [L2.zCf,hl],λi d h=>?_,λi u h o=>?_,λi j s t a b ne h1 o1 h2 o2 q1 q2=>?_⟩
 ·rcases low h with z|⟨d',z,q⟩
  ·cases z
  ·cases z
   obtain ⟨v,e1,e2⟩:=r.get q
   have hi:i<vs.length:=(List.getElem?_eq_some_iff.mp e1).1
   refine ⟨v,?_,e2⟩
   unfold L2.zCf
   rw [List.getElem?_append_left (by simpa using hi),List.getElem?_map,e1];rfl
 ·rcases low h with z|⟨d',z,q⟩<;>subst z<;>cases o
 ·rcases low h1 with z|⟨d',z,q⟩<;>subst z<;>cases o1
theorem zSY {P:Program} {w:World} {K:Fg} {mg:MGt} {base:Heap} {x qual:Str} {st:Stmt} {fa:Addr} {fd:FuncData} {N ps:List Str} {k:Nat} {F:ROo} {f:List D->Option D}
  (FF:Fun K x qual st fa fd) (S:zZ N ps (zI st))
  (hbody:∀ (cdv:Value) (A:Around) (outer:List Env) (s:Shared) (H:Hp),zBn k (A.deeper (envOfC qual (zI st) s.heap.objs.size fa cdv))->SSs (zHy CX0 P w K mg base N qual (zI st) fa cdv A outer s H E0).nox (ye st) F)
  (hf:∀ ds d,ds.length=ps.length->f ds=some d->zCg N F ds=some d):zF8 P w K mg base CX0 (k+1) fa fd ps (spD K f ps.length):=by
 refine FF.ok S (λvs H Q E h=>?_) (λcdv A outer s H vs Q E hr h=>?_)
 ·obtain ⟨G,ds,d,_,r,hn,_⟩:=h
  rw [<- r.length,hn]
 ·obtain ⟨G,ds,d,sm,r,hn,ef,kk⟩:=h
  have h1:SSs (zHy CX0 P w K mg base N qual (zI st) fa cdv A outer s H E).nox (ye st) F:=hbody cdv A outer s H hr
  refine ⟨_,h1,?_⟩
  obtain ⟨o,e1,e2⟩:=Option.bind_eq_some_iff.mp (hf ds d hn ef)
  have er:=zGE (N:=N) (H:=H) r
  refine ⟨G,H,G,_,o,⟨er,⟨sm,zu.refl _,zu.refl _,λb o e n=>by rw [e] at n;cases n⟩,λi u a h1 h2 h3=>?_⟩,e1,?_⟩
  ·obtain ⟨a',u',e3,e4,e5⟩:=er.ownAt h1 h2
   exfalso
   by_cases hi:i<ds.length
   ·rw [List.getElem?_append_left (by simpa using hi),List.getElem?_map] at h1
    cases q:ds[i]? with
    |none=>rw [q] at h1;cases h1
    |some d=>rw [q] at h1;cases h1;cases h2
   ·rw [List.getElem?_append_right (by simpa using hi),List.getElem?_replicate] at h1
    split at h1<;>cases h1
    cases h2
  ·cases o with
   |rt d'=>
    cases e2
    exact λv G' H' b r'=>kk v G' H' ⟨b.gg,b.hh,b.gh,b.fr⟩ r'
   |nx ρ=>
    cases e2
    exact λσ' G' H' st'=>kk .non G' H' ⟨st'.bs.gg,st'.bs.hh,st'.bs.gh,st'.bs.fr⟩ (zBM.mpr rfl)
   |bk ρ=>cases e2
   |ct ρ=>cases e2
   |ro ρ=>cases e2
   |rm d ρ=>cases e2
end RD
namespace RD
open PySem PySem.Spec PyProof.Rows L2 SeqAt
mutual
def eqD:D->D->Bool
 |.non,.non=>true
 |.bl a,.bl b=>a == b
 |.bl a,.int i=>(if a then 1 else 0) == i
 |.int i,.bl a=>i == (if a then 1 else 0)
 |.int i,.int j=>i == j
 |.str x,.str y=>x == y
 |.tup xs,.tup ys=>eqL xs ys
 |.lst xs,.lst ys=>eqL xs ys
 |_,_=>false
def eqL:List D->List D->Bool
 | [],[]=>true
 |x::xs,y::ys=>eqD x y && eqL xs ys
 |_,_=>false
end
mutual
def dep:D->Nat
 |.tup xs=>depL xs+1
 |.lst xs=>depL xs+1
 |_=>0
def depL:List D->Nat
 | []=>0
 |x::xs=>max (dep x) (depL xs)
end
mutual
theorem zGF:∀ d:D,eqD d d=true
 |.non=>by simp [eqD]
 |.bl _=>by simp [eqD]
 |.int _=>by simp [eqD]
 |.str _=>by simp [eqD]
 |.tup xs=>by simp only [eqD];exact eqL_refl xs
 |.lst xs=>by simp only [eqD];exact eqL_refl xs
theorem eqL_refl:∀ d:List D,eqL d d=true
 | []=>by simp [eqL]
 |x::xs=>by simp only [eqL,zGF x,eqL_refl xs];rfl
end
theorem zCw:∀ {xs:List D} {i:Nat} {d:D},xs[i]?=some d->dep d<=depL xs
 | [],_,_,h=>by simp at h
 |x::xs,0,d,h=>by simp at h;subst h;simp only [depL];omega
 |x::xs,i+1,d,h=>by
  have:=zCw (xs:=xs) (i:=i) (by simpa using h)
  simp only [depL];omega
def eqI (xs ys:List D) (j:Nat):Bool:=match xs[j]?,ys[j]? with
 |some x,some y=>eqD x y
 |_,_=>true
theorem zH4:∀ xs ys:List D,((List.range (min xs.length ys.length)).all (eqI xs ys) && xs.length == ys.length)=eqL xs ys
 | [],[]=>by simp [eqL]
 | [],y::ys=>by simp [eqL]
 |x::xs,[]=>by simp [eqL]
 |x::xs,y::ys=>by
  have ih:=zH4 xs ys
  have e1:min (x::xs).length (y::ys).length=min xs.length ys.length+1:=by simp only [List.length_cons];omega
  have e2:((List.range (min xs.length ys.length)).map Nat.succ).all (eqI (x::xs) (y::ys))=(List.range (min xs.length ys.length)).all (eqI xs ys):=by
   rw [List.all_map]
   congr 1
  rw [e1,List.range_succ_eq_map,List.all_cons,e2]
  have e3:eqI (x::xs) (y::ys) 0=eqD x y:=by simp [eqI]
  have e4:((x::xs).length == (y::ys).length)=(xs.length == ys.length):=by
   simp only [List.length_cons]
   rw [Bool.eq_iff_iff];simp
  rw [e3,e4,Bool.and_assoc,ih]
  simp only [eqL]
theorem zNP (xs ys:List D) (h:xs.length=ys.length):(List.range xs.length).all (eqI xs ys)=eqL xs ys:=by
 rw [<- zH4 xs ys,h,Nat.min_self]
 simp
theorem zK0:∀ xs ys:List D,xs.length≠ys.length->eqL xs ys=false
 | [],[],h=>absurd rfl h
 | [],y::ys,h=>by simp [eqL]
 |x::xs,[],h=>by simp [eqL]
 |x::xs,y::ys,h=>by
  simp only [eqL,zK0 xs ys (λz=>h (by simp [z])),Bool.and_false]
section
variable {X:Cx} {pins:PNt} {σ:L2.St} {G H:Hp} {s:Shared}
theorem zIv (I:Inv X pins σ H s) (h1:SqT X.K H a xs) (h2:SqL X.K H a ys):False:=by
 obtain ⟨_,_,⟨o,e,hc,_⟩,_⟩:=I.tuple h1
 obtain ⟨_,_,⟨o',n',e',hc',_⟩,_⟩:=I.list h2
 rw [e] at e';cases e'
 rw [hc] at hc'
 exact absurd hc' (by decide +kernel)
mutual
theorem Rep.inj (I:Inv X pins σ H s) (sm:zu G H):∀ (d d':D) (v:V),Rep X.K G d v->Rep X.K G d' v->d=d'
 |.non,d',v,h,h'=>by
  have e:=zBM.mp h;subst e
  cases d'<;>simp_all [Rep]
 |.bl b,d',v,h,h'=>by
  have e:=yT.mp h;subst e
  cases d'<;>simp_all [Rep]
 |.int b,d',v,h,h'=>by
  have e:=yB.mp h;subst e
  cases d'<;>simp_all [Rep]
 |.str b,d',v,h,h'=>by
  have e:=zAU.mp h;subst e
  cases d'<;>simp_all [Rep]
 |.tup ds,d',v,h,h'=>by
  obtain ⟨a,vs,rfl,q,r⟩:=zDU h
  cases d' with
  |tup ds'=>
   obtain ⟨a',vs',e,q',r'⟩:=zDU h'
   cases e
   have e2:=I.tuple_inj (qt sm q) (qt sm q')
   subst e2
   rw [Reps.inj I sm ds ds' vs r r']
  |lst ds'=>
   obtain ⟨a',vs',e,q',r'⟩:=zAy.mp h'
   cases e
   exact (zIv I (qt sm q) (sm.seq q')).elim
  |_=>simp [Rep] at h'
 |.lst ds,d',v,h,h'=>by
  obtain ⟨a,vs,rfl,q,r⟩:=zAy.mp h
  cases d' with
  |lst ds'=>
   obtain ⟨a',vs',e,q',r'⟩:=zAy.mp h'
   cases e
   have e2:=I.list_inj (sm.seq q) (sm.seq q')
   subst e2
   rw [Reps.inj I sm ds ds' vs r r']
  |tup ds'=>
   obtain ⟨a',vs',e,q',r'⟩:=zDU h'
   cases e
   exact (zIv I (qt sm q') (sm.seq q)).elim
  |_=>simp [Rep] at h'
theorem Reps.inj (I:Inv X pins σ H s) (sm:zu G H):∀ (d d':List D) (v:List V),Reps X.K G d v->Reps X.K G d' v->d=d'
 |[],d',v,h,h'=>by
  have e:=yf.mp h;subst e
  cases d' with
  |nil=>rfl
  |cons _ _=>obtain ⟨_,_,e,_⟩:=zm.mp h';cases e
 |d::ds,d',v,h,h'=>by
  obtain ⟨x,r,rfl,a,b⟩:=zm.mp h
  cases d' with
  |nil=>cases yf.mp h'
  |cons d1 ds1=>
   obtain ⟨x',r',e,a',b'⟩:=zm.mp h'
   cases e
   rw [Rep.inj I sm d d1 x a a',Reps.inj I sm ds ds1 r b b']
end
theorem zEF {xs:List V} {us:List Value} {i:Nat} {u:Value} (r:yI xs us) (e:us[i]?=some u):∃ x,xs[i]?=some x/\y8 x u:=by
 have hl:i<xs.length:=by rw [r.length];exact (List.getElem?_eq_some_iff.mp e).1
 obtain ⟨u',e1,q⟩:=r.get (i:=i) (x:=xs[i]) (by simp [hl])
 rw [e] at e1;cases e1
 exact ⟨xs[i],by simp [hl],q⟩
theorem zIw {xs ys:List D} {vs ws:List V} {its its2:List Value} (r1:Reps X.K G xs vs) (q1:yI vs its) (r2:Reps X.K G ys ws) (q2:yI ws its2) {j:Nat} (h1:j<its.toArray.size) (h2:j<its2.toArray.size) :
  ∃ x y v w,xs[j]?=some x/\ys[j]?=some y/\Rep X.K G x v/\Rep X.K G y w/\y8 v its.toArray[j]/\y8 w its2.toArray[j]:=by
 obtain ⟨v,e1,p1⟩:=zEF (i:=j) (u:=its.toArray[j]) q1 (by simp at h1 ⊢)
 obtain ⟨w,e2,p2⟩:=zEF (i:=j) (u:=its2.toArray[j]) q2 (by simp at h2 ⊢)
 obtain ⟨x,e3,p3⟩:=r1.got e1
 obtain ⟨y,e4,p4⟩:=r2.got e2
 exact ⟨x,y,v,w,e3,e4,p3,p4,p1,p2⟩
theorem zEg (A:Around):A.in1.units=A.units+1:=rfl
theorem zK1 (I:Inv X pins σ H s) (sm:zu G H):∀ (n:Nat) (A:Around) (x y:D) (v w:V) (u1 u2:Value),min (dep x) (dep y)<=n->A.units+n<cLine->zBu X.K G H x v->zBu X.K G H y w->y8 v u1->y8 w u2 ->
  RcAt A s u1 u2 (eqD x y)/\RcNeAt A s u1 u2 (!eqD x y)/\(Rep X.K G x v->Rep X.K G y w->EqAt A s u1 u2 (eqD x y)):=by
 intro n
 induction n with
 |zero=>?_
 |succ n ih=>?_
 all_goals
  intro A x y v w u1 u2 hd hu rx ry q1 q2
  have hu0:A.units<cLine:=by omega
  cases x with
  |non=>
   rw [rx.non] at q1;cases q1
   cases y with
   |non=>rw [ry.non] at q2;cases q2;exact ⟨RcAt.none_none,RcNeAt.none_none,λ_ _=>EqAt.same _⟩
   |bl b=>rw [ry.bl] at q2;cases q2;exact ⟨RcAt.none_bool b,RcNeAt.none_bool b,λ_ _=>EqAt.none_bool b⟩
   |int b=>rw [ry.int] at q2;obtain ⟨t,rfl⟩:=q2;exact ⟨RcAt.none_int b t,RcNeAt.none_int b t,λ_ _=>EqAt.none_int b t⟩
   |str b=>rw [ry.str] at q2;obtain ⟨t,rfl⟩:=q2;exact ⟨RcAt.none_str b t,RcNeAt.none_str b t,λ_ _=>EqAt.none_str b t⟩
   |tup ys=>obtain ⟨a,vs,rfl,q,r⟩:=ry.tup sm;cases q2;obtain ⟨its,_,p,_⟩:=I.tuple q;exact ⟨RcAt.none_tuple p hu0,RcNeAt.none_tuple p hu0,λ_ _=>EqAt.none_tuple p hu0⟩
   |lst ys=>obtain ⟨a,vs,rfl,q,r⟩:=ry.list sm;cases q2;obtain ⟨its,_,p,_⟩:=I.list q;exact ⟨RcAt.none_list p.isList hu0,RcNeAt.none_list p.isList hu0,λ_ _=>EqAt.none_list p.isList hu0⟩
  |bl c=>
   rw [rx.bl] at q1;cases q1
   cases y with
   |non=>rw [ry.non] at q2;cases q2;exact ⟨RcAt.bool_none c,RcNeAt.bool_none c,λ_ _=>EqAt.bool_none c⟩
   |bl b=>rw [ry.bl] at q2;cases q2;exact ⟨RcAt.bool_bool c b,RcNeAt.bool_bool c b,λ_ _=>EqAt.bool_bool c b⟩
   |int b=>rw [ry.int] at q2;obtain ⟨t,rfl⟩:=q2;exact ⟨RcAt.bool_int c b t,RcNeAt.bool_int c b t,λ_ _=>EqAt.bool_int c b t⟩
   |str b=>rw [ry.str] at q2;obtain ⟨t,rfl⟩:=q2;exact ⟨RcAt.bool_str c b t,RcNeAt.bool_str c b t,λ_ _=>EqAt.bool_str c b t⟩
   |tup ys=>obtain ⟨a,vs,rfl,q,r⟩:=ry.tup sm;cases q2;obtain ⟨its,_,p,_⟩:=I.tuple q;exact ⟨RcAt.bool_tuple c p hu0,RcNeAt.bool_tuple c p hu0,λ_ _=>EqAt.bool_tuple c p hu0⟩
   |lst ys=>obtain ⟨a,vs,rfl,q,r⟩:=ry.list sm;cases q2;obtain ⟨its,_,p,_⟩:=I.list q;exact ⟨RcAt.bool_list c p.isList hu0,RcNeAt.bool_list c p.isList hu0,λ_ _=>EqAt.bool_list c p.isList hu0⟩
  |int c=>
   rw [rx.int] at q1;obtain ⟨t1,rfl⟩:=q1
   cases y with
   |non=>rw [ry.non] at q2;cases q2;exact ⟨RcAt.int_none c t1,RcNeAt.int_none c t1,λ_ _=>EqAt.int_none c t1⟩
   |bl b=>rw [ry.bl] at q2;cases q2;exact ⟨RcAt.int_bool c t1 b,RcNeAt.int_bool c t1 b,λ_ _=>EqAt.int_bool c t1 b⟩
   |int b=>rw [ry.int] at q2;obtain ⟨t,rfl⟩:=q2;exact ⟨RcAt.int_int c t1 b t,RcNeAt.int_int c t1 b t,λ_ _=>EqAt.int_int c t1 b t⟩
   |str b=>rw [ry.str] at q2;obtain ⟨t,rfl⟩:=q2;exact ⟨RcAt.int_str c t1 b t,RcNeAt.int_str c t1 b t,λ_ _=>EqAt.int_str c t1 b t⟩
   |tup ys=>obtain ⟨a,vs,rfl,q,r⟩:=ry.tup sm;cases q2;obtain ⟨its,_,p,_⟩:=I.tuple q;exact ⟨RcAt.int_tuple c t1 p hu0,RcNeAt.int_tuple c t1 p hu0,λ_ _=>EqAt.int_tuple c t1 p hu0⟩
   |lst ys=>obtain ⟨a,vs,rfl,q,r⟩:=ry.list sm;cases q2;obtain ⟨its,_,p,_⟩:=I.list q;exact ⟨RcAt.int_list c t1 p.isList hu0,RcNeAt.int_list c t1 p.isList hu0,λ_ _=>EqAt.int_list c t1 p.isList hu0⟩
  |str c=>
   rw [rx.str] at q1;obtain ⟨t1,rfl⟩:=q1
   cases y with
   |non=>rw [ry.non] at q2;cases q2;exact ⟨RcAt.str_none c t1,RcNeAt.str_none c t1,λ_ _=>EqAt.str_none c t1⟩
   |bl b=>rw [ry.bl] at q2;cases q2;exact ⟨RcAt.str_bool c t1 b,RcNeAt.str_bool c t1 b,λ_ _=>EqAt.str_bool c t1 b⟩
   |int b=>rw [ry.int] at q2;obtain ⟨t,rfl⟩:=q2;exact ⟨RcAt.str_int c t1 b t,RcNeAt.str_int c t1 b t,λ_ _=>EqAt.str_int c t1 b t⟩
   |str b=>rw [ry.str] at q2;obtain ⟨t,rfl⟩:=q2;exact ⟨RcAt.str_str c t1 b t,RcNeAt.str_str c t1 b t,λ_ _=>EqAt.str_str c t1 b t⟩
   |tup ys=>obtain ⟨a,vs,rfl,q,r⟩:=ry.tup sm;cases q2;obtain ⟨its,_,p,_⟩:=I.tuple q;exact ⟨RcAt.str_tuple c t1 p hu0,RcNeAt.str_tuple c t1 p hu0,λ_ _=>EqAt.str_tuple c t1 p hu0⟩
   |lst ys=>obtain ⟨a,vs,rfl,q,r⟩:=ry.list sm;cases q2;obtain ⟨its,_,p,_⟩:=I.list q;exact ⟨RcAt.str_list c t1 p.isList hu0,RcNeAt.str_list c t1 p.isList hu0,λ_ _=>EqAt.str_list c t1 p.isList hu0⟩
  |tup xs=>
   obtain ⟨a1,vs1,rfl,qq1,rr1⟩:=rx.tup sm;cases q1;obtain ⟨its1,vv1,p1,_⟩:=I.tuple qq1
   cases y with
   |non=>rw [ry.non] at q2;cases q2;exact ⟨RcAt.tuple_none p1 hu0,RcNeAt.tuple_none p1 hu0,λ_ _=>EqAt.tuple_none p1 hu0⟩
   |bl b=>rw [ry.bl] at q2;cases q2;exact ⟨RcAt.tuple_bool b p1 hu0,RcNeAt.tuple_bool b p1 hu0,λ_ _=>EqAt.tuple_bool b p1 hu0⟩
   |int b=>rw [ry.int] at q2;obtain ⟨t,rfl⟩:=q2;exact ⟨RcAt.tuple_int b t p1 hu0,RcNeAt.tuple_int b t p1 hu0,λ_ _=>EqAt.tuple_int b t p1 hu0⟩
   |str b=>rw [ry.str] at q2;obtain ⟨t,rfl⟩:=q2;exact ⟨RcAt.tuple_str b t p1 hu0,RcNeAt.tuple_str b t p1 hu0,λ_ _=>EqAt.tuple_str b t p1 hu0⟩
   |lst ys=>obtain ⟨a,vs,rfl,q,r⟩:=ry.list sm;cases q2;obtain ⟨its,_,p,_⟩:=I.list q;exact ⟨RcAt.tuple_list p1 p.isList hu0,RcNeAt.tuple_list p1 p.isList hu0,λ_ _=>EqAt.tuple_list p1 p.isList hu0⟩
   |tup ys=>
    first
    |(exfalso;simp only [dep] at hd;omega)
    |(obtain ⟨a2,vs2,rfl,qq2,rr2⟩:=ry.tup sm;cases q2;obtain ⟨its2,vv2,p2,_⟩:=I.tuple qq2
      have he:∀ j (h1:j<its1.toArray.size) (h2:j<its2.toArray.size),EqAt A.in1 s its1.toArray[j] its2.toArray[j] (eqI xs ys j):=λj h1 h2=>by
       obtain ⟨x,y,v,w,e1,e2,r1,r2,z1,z2⟩:=zIw rr1 vv1 rr2 vv2 h1 h2
       have d1:=zCw e1
       have d2:=zCw e2
       have:=(ih A.in1 x y v w _ _ (by simp only [dep] at hd;omega) (by rw [zEg];omega) (.fr r1) (.fr r2) z1 z2).2.2 r1 r2
       simpa only [eqI,e1,e2] using this
      have el:((List.range (min its1.toArray.size its2.toArray.size)).all (eqI xs ys) && its1.toArray.size == its2.toArray.size)=eqD (.tup xs) (.tup ys):=by
       have l1:=rr1.length;have l2:=rr2.length;have l3:=vv1.length;have l4:=vv2.length
       rw [List.size_toArray,List.size_toArray,<- l3,<- l4,<- l1,<- l2]
       simp only [eqD];exact zH4 xs ys
      have e1:RcAt A s (.ref a1) (.ref a2) (eqD (.tup xs) (.tup ys)):=by rw [<- el];exact RcAt.tuples p1 p2 hu0 he
      have e2:RcNeAt A s (.ref a1) (.ref a2) (!eqD (.tup xs) (.tup ys)):=by rw [<- el];exact RcNeAt.tuples p1 p2 hu0 he
      refine ⟨e1,e2,λh1 h2=>?_⟩
      by_cases z:a1=a2
      ·subst z
       have:=Rep.inj I sm _ _ _ h1 h2
       rw [<- this,zGF]
       exact EqAt.same _
      ·exact EqAt.of_refs z e1)
  |lst xs=>
   obtain ⟨a1,vs1,rfl,qq1,rr1⟩:=rx.list sm;cases q1;obtain ⟨its1,vv1,p1,_⟩:=I.list qq1
   cases y with
   |non=>rw [ry.non] at q2;cases q2;exact ⟨RcAt.list_none p1.isList hu0,RcNeAt.list_none p1.isList hu0,λ_ _=>EqAt.list_none p1.isList hu0⟩
   |bl b=>rw [ry.bl] at q2;cases q2;exact ⟨RcAt.list_bool b p1.isList hu0,RcNeAt.list_bool b p1.isList hu0,λ_ _=>EqAt.list_bool b p1.isList hu0⟩
   |int b=>rw [ry.int] at q2;obtain ⟨t,rfl⟩:=q2;exact ⟨RcAt.list_int b t p1.isList hu0,RcNeAt.list_int b t p1.isList hu0,λ_ _=>EqAt.list_int b t p1.isList hu0⟩
   |str b=>rw [ry.str] at q2;obtain ⟨t,rfl⟩:=q2;exact ⟨RcAt.list_str b t p1.isList hu0,RcNeAt.list_str b t p1.isList hu0,λ_ _=>EqAt.list_str b t p1.isList hu0⟩
   |tup ys=>obtain ⟨a,vs,rfl,q,r⟩:=ry.tup sm;cases q2;obtain ⟨its,_,p,_⟩:=I.tuple q;exact ⟨RcAt.list_tuple p1.isList p hu0,RcNeAt.list_tuple p1.isList p hu0,λ_ _=>EqAt.list_tuple p1.isList p hu0⟩
   |lst ys=>
    first
    |(exfalso;simp only [dep] at hd;omega)
    |(obtain ⟨a2,vs2,rfl,qq2,rr2⟩:=ry.list sm;cases q2;obtain ⟨its2,vv2,p2,_⟩:=I.list qq2
      have l1:=rr1.length;have l2:=rr2.length;have l3:=vv1.length;have l4:=vv2.length
      have he:∀ j (h1:j<its1.toArray.size) (h2:j<its2.toArray.size),EqAt A.in1 s its1.toArray[j] its2.toArray[j] (eqI xs ys j):=λj h1 h2=>by
       obtain ⟨x,y,v,w,e1,e2,r1,r2,z1,z2⟩:=zIw rr1 vv1 rr2 vv2 h1 h2
       have d1:=zCw e1
       have d2:=zCw e2
       have:=(ih A.in1 x y v w _ _ (by simp only [dep] at hd;omega) (by rw [zEg];omega) (.fr r1) (.fr r2) z1 z2).2.2 r1 r2
       simpa only [eqI,e1,e2] using this
      have e12:RcAt A s (.ref a1) (.ref a2) (eqD (.lst xs) (.lst ys))/\RcNeAt A s (.ref a1) (.ref a2) (!eqD (.lst xs) (.lst ys)):=by
       by_cases hz:its1.length=its2.length
       ·have hsz:its1.toArray.size=its2.toArray.size:=by rw [List.size_toArray,List.size_toArray];exact hz
        have el:(List.range its1.toArray.size).all (eqI xs ys)=eqD (.lst xs) (.lst ys):=by
         rw [List.size_toArray,<- l3,<- l1]
         simp only [eqD];exact zNP xs ys (by omega)
        rw [<- el]
        exact ⟨RcAt.lists p1.isList p2.isList hsz hu0 he,RcNeAt.lists p1.isList p2.isList hsz hu0 he⟩
       ·have hsz:(its1.toArray.size != its2.toArray.size)=true:=by rw [List.size_toArray,List.size_toArray];simpa using hz
        have el:eqD (.lst xs) (.lst ys)=false:=by simp only [eqD];exact zK0 xs ys (by omega)
        rw [el]
        exact ⟨RcAt.lists_lengths p1.isList p2.isList hsz hu0,RcNeAt.lists_lengths p1.isList p2.isList hsz hu0⟩
      refine ⟨e12.1,e12.2,λh1 h2=>?_⟩
      by_cases z:a1=a2
      ·subst z
       have:=Rep.inj I sm _ _ _ h1 h2
       rw [<- this,zGF]
       exact EqAt.same _
      ·exact EqAt.of_refs z e12.1)
end
def eqO (x y:D):Option D:=if min (dep x) (dep y)<=20 then some (.bl (eqD x y)) else none
def neO (x y:D):Option D:=if min (dep x) (dep y)<=20 then some (.bl (!eqD x y)) else none
section
variable {X:Cx}
theorem yi (hu:X.A.units+30<cLine):OpR X (compareOp .Eq) (rD X.K eqO):=by
 intro pins s σ H x y v u Q I rx ry ⟨G,dx,dy,d,sm,r1,r2,e,k⟩
 unfold eqO at e
 split at e
 ·rename_i hd
  cases e
  exact (zK1 I sm 20 X.A dx dy x y v u hd (by omega) r1 r2 rx ry).1 _ _ _ _ (zBt I (k _ G H (zg.refl sm) (yT.mpr rfl)) rfl)
 ·cases e
theorem zIx (hu:X.A.units+30<cLine):OpR X (compareOp .NotEq) (rD X.K neO):=by
 intro pins s σ H x y v u Q I rx ry ⟨G,dx,dy,d,sm,r1,r2,e,k⟩
 unfold neO at e
 split at e
 ·rename_i hd
  cases e
  exact (zK1 I sm 20 X.A dx dy x y v u hd (by omega) r1 r2 rx ry).2.1 _ _ _ _ (zBt I (k _ G H (zg.refl sm) (yT.mpr rfl)) rfl)
 ·cases e
open Classical in
def zRq (ds:List D) (us:List Value) (dx:D) (u:Value):Bool:=decide (∃ (i:Nat) (d:D),us[i]?=some u/\ds[i]?=some d/\eqD d dx=true)
open Classical in
theorem zGG {pins:PNt} (I:Inv X pins σ H s) (sm:zu G H) {ds:List D} {vs:List V} {us:List Value} (r:Reps X.K G ds vs) (q:yI vs us) (dx:D) {i:Nat} {u:Value} (h:us[i]?=some u) (hd:ds[i]?=some d):zRq ds us dx u=eqD d dx:=by
 unfold zRq
 cases e:eqD d dx with
 |true=>exact decide_eq_true ⟨i,d,h,hd,e⟩
 |false=>
  refine decide_eq_false ?_
  rintro ⟨j,d',h',hd',e'⟩
  obtain ⟨v1,e1,r1⟩:=r.get hd
  obtain ⟨v2,e2,r2⟩:=r.get hd'
  obtain ⟨u1,e3,q1⟩:=q.get e1
  obtain ⟨u2,e4,q2⟩:=q.get e2
  rw [h] at e3;cases e3
  rw [h'] at e4;cases e4
  have:=q1.inj q2
  subst this
  have:=Rep.inj I sm _ _ _ r1 r2
  subst this
  rw [e] at e';cases e'
theorem zEG {pins:PNt} (I:Inv X pins σ H s) (sm:zu G H) {ds:List D} {vs:List V} {us:List Value} (r:Reps X.K G ds vs) (q:yI vs us) (dx:D):us.toArray.any (zRq ds us dx)=ds.any λd=>eqD d dx:=by
 rw [Bool.eq_iff_iff]
 simp only [List.any_toArray,List.any_eq_true]
 constructor
 ·rintro ⟨u,hu,h⟩
  obtain ⟨i,hi,rfl⟩:=List.mem_iff_getElem.mp hu
  obtain ⟨v,e1,p1⟩:=zEF (i:=i) (u:=us[i]) q (by simp [hi])
  obtain ⟨d,e2,p2⟩:=r.got e1
  rw [zGG I sm r q dx (i:=i) (u:=us[i]) (by simp [hi]) e2] at h
  exact ⟨d,List.mem_of_getElem? e2,h⟩
 ·rintro ⟨d,hd,h⟩
  obtain ⟨i,hi,rfl⟩:=List.mem_iff_getElem.mp hd
  obtain ⟨v,e1,p1⟩:=r.get (i:=i) (d:=ds[i]) (by simp [hi])
  obtain ⟨u,e2,p2⟩:=q.get e1
  refine ⟨u,List.mem_of_getElem? e2,?_⟩
  rw [zGG I sm r q dx (i:=i) (d:=ds[i]) e2 (by simp [hi])]
  exact h
def inO (x y:D):Option D:=if dep x<=20 then match y with
  |.tup ys=>some (.bl (ys.any λd=>eqD d x))
  |.lst ys=>some (.bl (ys.any λd=>eqD d x))
  |_=>none
 else none
def zHo (x y:D):Option D:=if dep x<=20 then match y with
  |.tup ys=>some (.bl (!ys.any λd=>eqD d x))
  |.lst ys=>some (.bl (!ys.any λd=>eqD d x))
  |_=>none
 else none
def rIN (K:Fg) (op:D->D->Option D):R2:=λx y H Q=>∃ G dx dy d,zu G H/\Rep K G dx x/\zBu K G H dy y/\op dx dy=some d/\∀ v G' H',zg G H G' H'->Rep K G' d v->Q v H'
theorem zCx {pins:PNt} (I:Inv X pins σ H s) (sm:zu G H) (hu:X.A.units+30<cLine) {ds:List D} {vs:List V} {us:List Value} (r:Reps X.K G ds vs) (q:yI vs us) {u:Value} (rx:Rep X.K G dx x) (qx:y8 x u) (hd:dep dx<=20):∀ y,y∈us.toArray->EqAt X.A.in1 s y u (zRq ds us dx y):=λy hy=>by
 obtain ⟨i,hi,rfl⟩:=List.mem_iff_getElem.mp (by simpa using hy)
 obtain ⟨v,e1,p1⟩:=zEF (i:=i) (u:=us[i]) q (by simp [hi])
 obtain ⟨d,e2,p2⟩:=r.got e1
 rw [zGG I sm r q dx (i:=i) (u:=us[i]) (by simp [hi]) e2]
 exact (zK1 I sm 20 X.A.in1 d dx v x us[i] u (by omega) (by rw [zEg];omega) (.fr p2) (.fr rx) p1 qx).2.2 p2 rx
theorem zO1 (hu:X.A.units+30<cLine):OpR X (compareOp .In) (rIN X.K inO):=by
 intro pins s σ H x y v u Q I rx ry ⟨G,dx,dy,d,sm,r1,r2,e,k⟩
 unfold inO at e
 split at e
 ·rename_i hd
  cases dy with
  |tup ys=>
   cases e
   obtain ⟨a,vs,rfl,q,r⟩:=r2.tup sm
   cases ry
   obtain ⟨its,vv,p,_⟩:=I.tuple q
   refine in_tupleAt _ p (zCx I sm hu r vv r1 rx hd) ?_
   rw [zEG I sm r vv]
   exact (zBt I (k _ G H (zg.refl sm) (yT.mpr rfl)) rfl)
  |lst ys=>
   cases e
   obtain ⟨a,vs,rfl,q,r⟩:=r2.list sm
   cases ry
   obtain ⟨its,vv,p,_⟩:=I.list q
   refine in_listAt _ p.isList (zCx I sm hu r vv r1 rx hd) ?_
   rw [zEG I sm r vv]
   exact (zBt I (k _ G H (zg.refl sm) (yT.mpr rfl)) rfl)
  |_=>cases e
 ·cases e
theorem zQB (hu:X.A.units+30<cLine):OpR X (compareOp .NotIn) (rIN X.K zHo):=by
 intro pins s σ H x y v u Q I rx ry ⟨G,dx,dy,d,sm,r1,r2,e,k⟩
 unfold zHo at e
 split at e
 ·rename_i hd
  cases dy with
  |tup ys=>
   cases e
   obtain ⟨a,vs,rfl,q,r⟩:=r2.tup sm
   cases ry
   obtain ⟨its,vv,p,_⟩:=I.tuple q
   refine notIn_tupleAt _ p (zCx I sm hu r vv r1 rx hd) ?_
   rw [zEG I sm r vv]
   exact (zBt I (k _ G H (zg.refl sm) (yT.mpr rfl)) rfl)
  |lst ys=>
   cases e
   obtain ⟨a,vs,rfl,q,r⟩:=r2.list sm
   cases ry
   obtain ⟨its,vv,p,_⟩:=I.list q
   refine notIn_listAt _ p.isList (zCx I sm hu r vv r1 rx hd) ?_
   rw [zEG I sm r vv]
   exact (zBt I (k _ G H (zg.refl sm) (yT.mpr rfl)) rfl)
  |_=>cases e
 ·cases e
variable {a b:Expr} {f g:ROd} {pos:Pos}
theorem zK2 {K:Fg} {op:D->D->Option D} {σ:L2.St} {H:Hp} {Q:VK} (h:tE K (b2 f g op) σ H Q):tOp (rIN K op) (tE K f) (tR K g) σ H Q:=by
 obtain ⟨G,ρ,d,s,er,ef,k⟩:=h
 obtain ⟨x,e1,ef⟩:=Option.bind_eq_some_iff.mp ef
 obtain ⟨y,e2,ef⟩:=Option.bind_eq_some_iff.mp ef
 refine ⟨G,ρ,x,s,er,e1,λv1 G1 H1 t1 r1=>⟨G1,ρ,y,t1.s,er.step t1,e2,λv2 G2 H2 t2 r2=>?_⟩⟩
 exact ⟨G2,x,y,d,t2.s,Rep.mono t2.g _ _ r1,r2,ef,λv G' H' t r=>k v G' H' ((t1.trans t2).trans t) r⟩
theorem se_in (hu:X.A.units+30<cLine) (ha:SE X a f) (hb:SR X b g) (hm:behindInMarks .In b=false):SE X (.Compare a [.In] [b] pos) (b2 f g inO):=zBo (zKd (zO1 hu) ha hb hm) λ_ _ _ h=>zK2 h
theorem zSZ (hu:X.A.units+30<cLine) (ha:SE X a f) (hb:SR X b g) (hm:behindInMarks .In b=false):SB X (.Compare a [.In] [b] pos) (bB (b2 f g inO)):=
 zH3 (zHx (zO1 hu) ha hb hm) λσ H Q=>by
  rintro ⟨G,ρ,d,s,er,ef,k⟩
  obtain ⟨x,e1,e2⟩:=Option.bind_eq_some_iff.mp ef
  have e3:=zG8 e2
  subst e3
  exact zK2 ⟨G,ρ,_,s,er,e1,λv G' H' t r=>⟨d,yT.mp r,k G' H' t⟩⟩
theorem zK3 (hu:X.A.units+30<cLine) (ha:SE X a f) (hb:SR X b g) (hm:behindInMarks .NotIn b=false):SB X (.Compare a [.NotIn] [b] pos) (bB (b2 f g zHo)):=
 zH3 (zHx (zQB hu) ha hb hm) λσ H Q=>by
  rintro ⟨G,ρ,d,s,er,ef,k⟩
  obtain ⟨x,e1,e2⟩:=Option.bind_eq_some_iff.mp ef
  have e3:=zG8 e2
  subst e3
  exact zK2 ⟨G,ρ,_,s,er,e1,λv G' H' t r=>⟨d,yT.mp r,k G' H' t⟩⟩
def ltO:D->D->Option D
 |.int i,.int j=>some (.bl (decide (i<j)))
 |.str i,.str j=>some (.bl (decide (i.cps.toList<j.cps.toList)))
 |_,_=>none
def gtO:D->D->Option D
 |.int i,.int j=>some (.bl (decide (j<i)))
 |_,_=>none
theorem zK4:OpR X (compareOp .Lt) (rD X.K ltO):=by
 intro pins s σ H x y v u Q I rx ry ⟨G,dx,dy,d,sm,r1,r2,e,k⟩
 cases dx with
 |int i=>cases dy with
  |int j=>cases e;rw [r1.int] at rx;rw [r2.int] at ry;obtain ⟨t,rfl⟩:=rx;obtain ⟨t',rfl⟩:=ry;exact lt_int (zBt I (k _ G H (zg.refl sm) (yT.mpr rfl)) rfl)
  |_=>cases e
 |str i=>cases dy with
  |str j=>cases e;rw [r1.str] at rx;rw [r2.str] at ry;obtain ⟨t,rfl⟩:=rx;obtain ⟨t',rfl⟩:=ry;exact lt_str (zBt I (k _ G H (zg.refl sm) (yT.mpr rfl)) rfl)
  |_=>cases e
 |_=>cases e
theorem zEh:OpR X (compareOp .Gt) (rD X.K gtO):=by
 intro pins s σ H x y v u Q I rx ry ⟨G,dx,dy,d,sm,r1,r2,e,k⟩
 cases dx with
 |int i=>cases dy with
  |int j=>cases e;rw [r1.int] at rx;rw [r2.int] at ry;obtain ⟨t,rfl⟩:=rx;obtain ⟨t',rfl⟩:=ry;exact gt_int (zBt I (k _ G H (zg.refl sm) (yT.mpr rfl)) rfl)
  |_=>cases e
 |_=>cases e
def isO (x y:D):Option D:=match y with
 |.non=>some (.bl (match x with | .non=>true|_=>false))
 |.bl b=>some (.bl (match x with | .bl c=>c == b|_=>false))
 |_=>none
def zQC (x y:D):Option D:=match y with
 |.non=>some (.bl (match x with | .non=>false|_=>true))
 |.bl b=>some (.bl (match x with | .bl c=>!(c == b)|_=>true))
 |_=>none
theorem zO2:OpR X (compareOp .Is) (rD X.K isO):=by
 intro pins s σ H x y v u Q I rx ry ⟨G,dx,dy,d,sm,r1,r2,e,k⟩
 have fin:∀ {c c':Bool},d = .bl c->c=c'->EP X pins σ Q (.bool c') s:=λ{c c'} e1 e2=>by subst e2;subst e1;exact (zBt I (k _ G H (zg.refl sm) (yT.mpr rfl)) rfl)
 cases dy with
 |non=>
  rw [r2.non] at ry;cases ry
  refine is_none_gen ?_
  cases dx with
  |non=>rw [r1.non] at rx;cases rx;cases e;exact fin rfl rfl
  |bl _=>rw [r1.bl] at rx;cases rx;cases e;exact fin rfl rfl
  |int _=>rw [r1.int] at rx;obtain ⟨t,rfl⟩:=rx;cases e;exact fin rfl rfl
  |str _=>rw [r1.str] at rx;obtain ⟨t,rfl⟩:=rx;cases e;exact fin rfl rfl
  |tup _=>obtain ⟨a,vs,rfl,_⟩:=r1.tup sm;cases rx;cases e;exact fin rfl rfl
  |lst _=>obtain ⟨a,vs,rfl,_⟩:=r1.list sm;cases rx;cases e;exact fin rfl rfl
 |bl b=>
  rw [r2.bl] at ry;cases ry
  cases dx with
  |non=>rw [r1.non] at rx;cases rx;cases e;exact wpAny_is_plain rfl (fin rfl rfl)
  |bl c=>rw [r1.bl] at rx;cases rx;cases e;exact wpAny_is_plain rfl (fin rfl (by cases b<;>cases c<;>rfl))
  |int _=>rw [r1.int] at rx;obtain ⟨t,rfl⟩:=rx;cases e;exact wpAny_is_plain rfl (fin rfl rfl)
  |str _=>rw [r1.str] at rx;obtain ⟨t,rfl⟩:=rx;cases e;exact wpAny_is_plain rfl (fin rfl rfl)
  |tup _=>obtain ⟨a,vs,rfl,_⟩:=r1.tup sm;cases rx;cases e;exact wpAny_is_plain rfl (fin rfl rfl)
  |lst _=>obtain ⟨a,vs,rfl,_⟩:=r1.list sm;cases rx;cases e;exact wpAny_is_plain rfl (fin rfl rfl)
 |_=>cases e
theorem zK5:OpR X (compareOp .IsNot) (rD X.K zQC):=by
 intro pins s σ H x y v u Q I rx ry ⟨G,dx,dy,d,sm,r1,r2,e,k⟩
 have fin:∀ {c c':Bool},d = .bl c->c=c'->EP X pins σ Q (.bool c') s:=λ{c c'} e1 e2=>by subst e2;subst e1;exact (zBt I (k _ G H (zg.refl sm) (yT.mpr rfl)) rfl)
 cases dy with
 |non=>
  rw [r2.non] at ry;cases ry
  refine isnot_none_gen ?_
  cases dx with
  |non=>rw [r1.non] at rx;cases rx;cases e;exact fin rfl rfl
  |bl _=>rw [r1.bl] at rx;cases rx;cases e;exact fin rfl rfl
  |int _=>rw [r1.int] at rx;obtain ⟨t,rfl⟩:=rx;cases e;exact fin rfl rfl
  |str _=>rw [r1.str] at rx;obtain ⟨t,rfl⟩:=rx;cases e;exact fin rfl rfl
  |tup _=>obtain ⟨a,vs,rfl,_⟩:=r1.tup sm;cases rx;cases e;exact fin rfl rfl
  |lst _=>obtain ⟨a,vs,rfl,_⟩:=r1.list sm;cases rx;cases e;exact fin rfl rfl
 |bl b=>
  rw [r2.bl] at ry;cases ry
  cases dx with
  |non=>rw [r1.non] at rx;cases rx;cases e;exact wpAny_isNot_plain rfl (fin rfl rfl)
  |bl c=>rw [r1.bl] at rx;cases rx;cases e;exact wpAny_isNot_plain rfl (fin rfl (by cases b<;>cases c<;>rfl))
  |int _=>rw [r1.int] at rx;obtain ⟨t,rfl⟩:=rx;cases e;exact wpAny_isNot_plain rfl (fin rfl rfl)
  |str _=>rw [r1.str] at rx;obtain ⟨t,rfl⟩:=rx;cases e;exact wpAny_isNot_plain rfl (fin rfl rfl)
  |tup _=>obtain ⟨a,vs,rfl,_⟩:=r1.tup sm;cases rx;cases e;exact wpAny_isNot_plain rfl (fin rfl rfl)
  |lst _=>obtain ⟨a,vs,rfl,_⟩:=r1.list sm;cases rx;cases e;exact wpAny_isNot_plain rfl (fin rfl rfl)
 |_=>cases e
end
end RD
namespace RD
open PySem PySem.Spec PyProof.Rows L2 SeqAt
section
variable {X:Cx} {a b:Expr} {f g:ROd} {fl:ROl} {pos:Pos}
theorem zH5 {n:Nat} (h:n<=1000000):n<=sizeLine:=Nat.le_trans h (by decide)
def qT:D->D->Option D
 |.int i,.int j=>some (.int (i+j))
 |.str i,.str j=>if i.length+j.length<=1000000 then some (.str (i++j)) else none
 |.tup xs,.tup ys=>if xs.length+ys.length<=1000000 then some (.tup (xs++ys)) else none
 |_,_=>none
def zH6:D->D->Option D
 |.int i,.int j=>some (.int (i-j))
 |_,_=>none
def zKK:D->D->Option D
 |.int i,.int j=>if (-(2 ^ 64)<i/\i<2 ^ 64)\/(-(2 ^ 64)<j/\j<2 ^ 64) then some (.int (i*j)) else none
 |_,_=>none
def zFk:D->D->Option D
 |.int i,.int j=>if 0<j then some (.int (i%j)) else none
 |_,_=>none
def zK6:D->D->Option D
 |.int i,.int j=>if 0<j/\j<1073741824 then some (.int (i/j)) else none
 |_,_=>none
theorem zQD {prog:Program} {w:World} {A:Around} {E:VSt} {s:Shared} {t b:Addr} {ws:List Value} {Q:VSt} (ht:IsTup s.heap t ([]:List Value).toArray) (hb:IsTup s.heap b ws.toArray) (h1:Q (.ref b) s) :
  wpAny (model prog w) A (binaryOp .Add (.ref t) (.ref b)) Q E s:=by
 obtain ⟨⟨cls,dd,data,sl⟩,ho,hc,n,hd⟩:=id ht
 obtain ⟨⟨cls2,dd2,data2,sl2⟩,ho2,hc2,n2,hd2⟩:=id hb
 simp only at hc hd hc2 hd2
 subst hc hd hc2 hd2
 exact concat_meets ⟨_,ho,rfl⟩ ⟨_,ho2,rfl⟩ noFill_tuple_add seq_tuple_add PySem.F.slot_tuple_add PySem.F.entry_tuple_add (PySem.F.args_tuple_add_2 _ _)
   (tuple_addW0 t b _ ws.toArray n n2 dd dd2 sl sl2 rfl) ⟨ho,ho2,h1⟩
theorem zX:OpR X (binaryOp .Add) (rD X.K qT):=by
 intro pins s σ H x y v u Q I rx ry ⟨G,dx,dy,d,sm,r1,r2,e,k⟩
 cases dx with
 |int i=>cases dy with
  |int j=>cases e;rw [r1.int] at rx;rw [r2.int] at ry;obtain ⟨t,rfl⟩:=rx;obtain ⟨t',rfl⟩:=ry;exact add_int ⟨.int (i+j),H,I.tok _,⟨_,rfl⟩,k _ G H (zg.refl sm) (yB.mpr rfl)⟩
  |_=>cases e
 |str i=>cases dy with
  |str j=>
   simp only [qT] at e
   split at e
   ·rename_i hz
    cases e;rw [r1.str] at rx;rw [r2.str] at ry
    exact zJl pins s σ H _ _ v u Q I rx ry ⟨i,j,rfl,rfl,zH5 hz,k _ G H (zg.refl sm) (zAU.mpr rfl)⟩
   ·cases e
  |_=>cases e
 |tup xs=>cases dy with
  |tup ys=>
   simp only [qT] at e
   split at e
   ·rename_i hz
    cases e
    obtain ⟨a1,vs1,rfl,q1,w1⟩:=r1.tup sm
    obtain ⟨a2,vs2,rfl,q2,w2⟩:=r2.tup sm
    have l1:=w1.length
    have l2:=w2.length
    cases vs1 with
    |nil=>
     cases rx;cases ry
     obtain ⟨its,vv,p1,_⟩:=I.tuple q1
     obtain ⟨its2,vv2,p2,_⟩:=I.tuple q2
     cases vv
     have hx:xs = []:=List.length_eq_zero_iff.mp l1
     subst hx
     refine zQD p1 p2 ⟨.ref a2,H,I,rfl,k _ G H (zg.refl sm) ?_⟩
     simpa using r2.rep (λ_ z=>by cases z)
    |cons v1 vs1=>
     refine zPp pins s σ H _ _ v u Q I rx ry ⟨a1,a2,_,vs2,rfl,rfl,q1,q2,by simp,zH5 (by omega),λz=>?_,λ_ p hp=>?_⟩
     ·subst z
      have hy:ys = []:=List.length_eq_zero_iff.mp l2
      subst hy
      refine k _ G H (zg.refl sm) ?_
      simpa using r1.rep (λ_ z=>by cases z)
     ·exact k _ _ _ (zg.new sm hp) (zBN.mpr ⟨p,_,rfl,zR,Reps.mono (yq (sm.free hp)) _ _ (w1.append w2)⟩)
   ·cases e
  |_=>cases e
 |_=>cases e
theorem zAW:OpR X (binaryOp .Sub) (rD X.K zH6):=by
 intro pins s σ H x y v u Q I rx ry ⟨G,dx,dy,d,sm,r1,r2,e,k⟩
 cases dx with
 |int i=>cases dy with
  |int j=>cases e;exact zSD pins s σ H x y v u Q I rx ry ⟨i,j,r1.int,r2.int,k _ G H (zg.refl sm) (yB.mpr rfl)⟩
  |_=>cases e
 |_=>cases e
theorem zBO:OpR X (binaryOp .Mult) (rD X.K zKK):=by
 intro pins s σ H x y v u Q I rx ry ⟨G,dx,dy,d,sm,r1,r2,e,k⟩
 cases dx with
 |int i=>cases dy with
  |int j=>
   simp only [zKK] at e
   split at e
   ·rename_i hz;cases e;exact zSE pins s σ H x y v u Q I rx ry ⟨i,j,r1.int,r2.int,hz,k _ G H (zg.refl sm) (yB.mpr rfl)⟩
   ·cases e
  |_=>cases e
 |_=>cases e
theorem qj:OpR X (binaryOp .Mod) (rD X.K zFk):=by
 intro pins s σ H x y v u Q I rx ry ⟨G,dx,dy,d,sm,r1,r2,e,k⟩
 cases dx with
 |int i=>cases dy with
  |int j=>
   simp only [zFk] at e
   split at e
   ·rename_i hz;cases e;exact zSF pins s σ H x y v u Q I rx ry ⟨i,j,r1.int,r2.int,hz,k _ G H (zg.refl sm) (yB.mpr rfl)⟩
   ·cases e
  |_=>cases e
 |_=>cases e
theorem zIy:OpR X (binaryOp .FloorDiv) (rD X.K zK6):=by
 intro pins s σ H x y v u Q I rx ry ⟨G,dx,dy,d,sm,r1,r2,e,k⟩
 cases dx with
 |int i=>cases dy with
  |int j=>
   simp only [zK6] at e
   split at e
   ·rename_i hz;cases e;exact zPi pins s σ H x y v u Q I rx ry ⟨i,j,r1.int,r2.int,hz,k _ G H (zg.refl sm) (yB.mpr rfl)⟩
   ·cases e
  |_=>cases e
 |_=>cases e
def zO3:D->Option D
 |.int i=>some (.int (-i))
 |_=>none
theorem zHA (ha:SR X a f):SE X (.UnaryOp .USub a pos) (b1 f zO3):=zBo (pe_un (r:=λx H Q=>∃ i,x = .int i/\Q (.int (-i)) H) zSG ha) λσ H Q=>by
 rintro ⟨G,ρ,d,s,er,ef,k⟩
 obtain ⟨d1,e1,ef⟩:=Option.bind_eq_some_iff.mp ef
 cases d1 with
 |int i=>cases ef;exact ⟨G,ρ,_,s,er,e1,λv1 G1 H1 t1 r1=>⟨i,r1.int,k _ G1 H1 t1 (yB.mpr rfl)⟩⟩
 |_=>cases ef
def zi (x y:D):Option (List D):=match x,y with
 |.lst xs,.lst ys=>if xs.length+ys.length<=1000000 then some (xs++ys) else none
 |_,_=>none
noncomputable def b2F (f g:ROd) (op:D->D->Option (List D)):ROl:=λρ=>(f ρ).bind λx=>(g ρ).bind λy=>op x y
def rF (K:Fg) (op:D->D->Option (List D)):R2:=λx y H Q=>∃ G dx dy xs,zu G H/\zBu K G H dx x/\zBu K G H dy y/\op dx dy=some xs/\∀ a vs G' H',zg G H G' H'->H a=none->G' a=none->H' a=some (.lst vs)->Reps K G' xs vs->Q (.ref a) H'
theorem zSa {K:Fg} {op:D->D->Option (List D)} {σ:L2.St} {H:Hp} {Q:VK} (h:tF K (b2F f g op) σ H Q):tOp (rF K op) (tR K f) (tR K g) σ H Q:=by
 obtain ⟨G,ρ,d,s,er,ef,k⟩:=h
 obtain ⟨x,e1,ef⟩:=Option.bind_eq_some_iff.mp ef
 obtain ⟨y,e2,ef⟩:=Option.bind_eq_some_iff.mp ef
 refine ⟨G,ρ,x,s,er,e1,λv1 G1 H1 t1 r1=>⟨G1,ρ,y,t1.s,er.step t1,e2,λv2 G2 H2 t2 r2=>?_⟩⟩
 exact ⟨G2,x,y,d,t2.s,r1.step t2,r2,ef,λa vs G' H' t h1 h2 h3 r=>k a vs G' H' ((t1.trans t2).trans t) ((t1.trans t2).h.free h1) h2 h3 r⟩
theorem zQE:OpR X (binaryOp .Add) (rF X.K zi):=by
 intro pins s σ H x y v u Q I rx ry ⟨G,dx,dy,d,sm,r1,r2,e,k⟩
 cases dx with
 |lst xs=>cases dy with
  |lst ys=>
   simp only [zi] at e
   split at e
   ·rename_i hz
    cases e
    obtain ⟨a1,vs1,rfl,q1,w1⟩:=r1.list sm
    obtain ⟨a2,vs2,rfl,q2,w2⟩:=r2.list sm
    have l1:=w1.length
    have l2:=w2.length
    cases rx;cases ry
    obtain ⟨its,vv,⟨o1,n1,p1,c1,d1,e1⟩,_⟩:=I.list q1
    obtain ⟨its2,vv2,⟨o2,n2,p2,c2,d2,e2⟩,_⟩:=I.list q2
    have l3:=vv.length
    have l4:=vv2.length
    obtain ⟨cls,dd,data,sl⟩:=o1
    obtain ⟨cls2,dd2,data2,sl2⟩:=o2
    simp only at c1 d1 e1 c2 d2 e2
    subst c1 d1 e1 c2 d2 e2
    refine concat_meets ⟨_,p1,rfl⟩ ⟨_,p2,rfl⟩ noFill_list_add seq_list_add PySem.F.slot_list_add PySem.F.entry_list_add (PySem.F.args_list_add_2 _ _)
     (list_addW a1 a2 its.toArray its2.toArray n1 n2 none none sl sl2 (by rw [List.size_toArray,List.size_toArray];exact zH5 (by omega))) ⟨p1,p2,?_⟩
    have ea:its.toArray++its2.toArray=(its++its2).toArray:=by simp
    rw [ea]
    refine ⟨.ref _,_,I.lnew (t':=s.toks) (vv.append vv2) (by rw [List.length_append];exact zH5 (by omega)),rfl,?_⟩
    exact k _ (vs1++vs2) G _ (zg.newH sm I.fresh) I.fresh (sm.free I.fresh) zR (w1.append w2)
   ·cases e
  |_=>cases e
 |_=>cases e
theorem zCy (ha:SR X a f) (hb:SR X b g):SF X (.BinOp a .Add b pos) (b2F f g zi):=zBo (zSC zQE ha hb) λ_ _ _ h=>zSa h
def ixO:D->D->Option D
 |.lst xs,.int i=>atI xs i
 |.tup xs,.int i=>atI xs i
 |.str z,.int i=>if z.length<=1000000 then (atI z.cps.toList i).map λc=>.str ⟨#[c]⟩ else none
 |_,_=>none
theorem zK7 {K:Fg} {G:Hp} {xs:List D} {vs:List V} {i:Int} {d:D} (r:Reps K G xs vs) (h:atI xs i=some d):∃ v,atI vs i=some v/\Rep K G d v:=by
 unfold atI at h ⊢
 rw [<- r.length]
 obtain ⟨j,e1,e2⟩:=Option.bind_eq_some_iff.mp h
 rw [e1]
 exact r.get e2
theorem ix_D:IxR X (rD X.K ixO):=by
 intro value slice pins s σ H x y v u Q I rx ry ⟨G,dx,dy,d,sm,r1,r2,e,k⟩ hs
 cases dy with
 |int i=>
  have hy:=r2.int
  subst hy
  cases dx with
  |lst xs=>
   obtain ⟨a1,vs1,rfl,q1,w1⟩:=r1.list sm
   obtain ⟨v',e1,e2⟩:=zK7 w1 e
   exact zKi value slice pins s σ H _ _ v u Q I rx ry (.inl ⟨a1,vs1,i,v',rfl,rfl,q1,e1,k _ G H (zg.refl sm) e2⟩) hs
  |tup xs=>
   obtain ⟨a1,vs1,rfl,q1,w1⟩:=r1.tup sm
   obtain ⟨v',e1,e2⟩:=zK7 w1 e
   exact zKi value slice pins s σ H _ _ v u Q I rx ry (.inr (.inl ⟨a1,vs1,i,v',rfl,rfl,q1,e1,k _ G H (zg.refl sm) e2⟩)) hs
  |str z=>
   have hx:=r1.str
   subst hx
   simp only [ixO] at e
   split at e
   ·rename_i hz
    obtain ⟨c,e1,rfl⟩:=Option.map_eq_some_iff.mp e
    exact zKi value slice pins s σ H _ _ v u Q I rx ry (.inr (.inr ⟨z,i,c,rfl,rfl,zH5 hz,e1,k _ G H (zg.refl sm) (zAU.mpr rfl)⟩)) hs
   ·cases e
  |_=>cases e
 |_=>cases dx<;>cases e
theorem zU (ha:SR X a f) (hb:SR X b g) (hs:zKh b:=by intro _ _;rfl):SE X (.Subscript a b pos) (b2 f g ixO):=zBo (pe_ix ix_D ha hb hs) λ_ _ _ h=>zNM h
abbrev zj (xs:List D) (lo hi:Option Int):List D:=(xs.drop (HT.sIx xs.length 0 lo)).take (HT.sIx xs.length xs.length hi-HT.sIx xs.length 0 lo)
theorem zK8 {K:Fg} {G:Hp} {xs:List D} {vs:List V} (lo hi:Option Int) (r:Reps K G xs vs):Reps K G (zj xs lo hi) (zOn vs lo hi):=by
 unfold zj zOn
 rw [r.length]
 exact (r.drop _).take _
def tOs (K:Fg) (f:Rho->Option (Option Int)):TO:=λσ H Q=>∃ G ρ d,zu G H/\Er K G H ρ σ/\f ρ=some d/\∀ G' H',zg G H G' H'->Q d H'
abbrev SO (X:Cx) (e:Option Expr) (f:Rho->Option (Option Int)):Prop:=PO X e (tOs X.K f)
theorem zSb (h:PO X e t) (w:∀ σ H Q,t' σ H Q->t σ H Q):PO X e t':=λpins s σ H Q I q=>h pins s σ H Q I (w σ H Q q)
def asI:D->Option Int
 |.int i=>some i
 |_=>none
def oI (f:ROd):Rho->Option (Option Int):=λρ=>(f ρ).bind λd=>(asI d).map some
theorem zAX:SO X none (λ_=>some none):=zSb zPn λσ H Q=>by rintro ⟨G,ρ,d,s,er,ef,k⟩;cases ef;exact k G H (zg.refl s)
theorem qO (h:SE X a f):SO X (some a) (oI f):=zSb (zPo h) λσ H Q=>by
 rintro ⟨G,ρ,d,s,er,ef,k⟩
 obtain ⟨x,e1,ef⟩:=Option.bind_eq_some_iff.mp ef
 obtain ⟨i,e2,rfl⟩:=Option.map_eq_some_iff.mp ef
 cases x with
 |int j=>cases e2;exact ⟨G,ρ,_,s,er,e1,λv1 G1 H1 t1 r1=>⟨i,yB.mp r1,k G1 H1 t1⟩⟩
 |_=>cases e2
variable {lo hi:Option Expr} {ol oh:Rho->Option (Option Int)} {p2:Pos}
def slD (x:D) (lo hi:Option Int):Option D:=match x with
 |.tup xs=>some (.tup (zj xs lo hi))
 |.str z=>if z.length<=1000000 then some (.str (Txt.slice z lo hi)) else none
 |_=>none
def slF (x:D) (lo hi:Option Int):Option (List D):=match x with
 |.lst xs=>some (zj xs lo hi)
 |_=>none
noncomputable def b3S {α:Type} (f:ROd) (ol oh:Rho->Option (Option Int)) (op:D->Option Int->Option Int->Option α):Rho->Option α:=λρ=>(f ρ).bind λx=>(ol ρ).bind λl=>(oh ρ).bind λh=>op x l h
theorem zCh {E:VSt} {s:Shared} {t sl:Addr} {items:Array Value} {vl vu:Value} {lo hi:Option Int} {Q:VSt} (ht:IsTup s.heap t items) (hs:s.heap.IsSliceOf sl vl vu .none) (pl:IsPart vl lo) (pu:IsPart vu hi) (hw:HT.sIx items.size 0 lo=0/\HT.sIx items.size items.size hi=items.size) (h:Q (.ref t) s):wpAny (model prog w) A (getItem (.ref t) (.ref sl)) Q E s:=by
 obtain ⟨os,hos,hcs,hds⟩:=id hs
 have hTs:s.TypeIs (.ref sl) "slice":=⟨os,hos,hcs⟩
 unfold getItem
 try with_reducible refine wpAny_holding ?_
 first|refine wpAny_bind (wpAny_pure ?_)|skip
 refine wpAny_bind (wpAny_sequenceKey ht.typeIs (by decide) ?_)
 refine wpAny_bind (wpAny_callSpecial?_slot (name:=Str.ofString "__getitem__") ht.typeIs PyProof.Rows.slot_tuple_getitem
  (wpAny_call_entry PyProof.Rows.slot_tuple_getitem ht.typeIs entry_tuple_getitem ?_ (args_tuple_getitem _ _)))
 show wpAny _ _ (Builtin.Tuple.tupleItemsOf (.ref t) >>= _) _ _ s
 refine wpAny_bind (tupleItemsOf_ ht ?_)
 refine wpAny_bind (wpAny_typeOf hTs ?_)
 rw [if_pos (by decide)]
 refine wpAny_bind (HT.zBg hs pl pu ?_)
 have hyes:(((HT.sIx items.size 0 lo:Nat):Int) == 0 && (1:Int) == 1 && (HT.sIx items.size items.size hi-HT.sIx items.size 0 lo) == items.size)=true:=by
  rw [hw.1,hw.2];simp
 show wpAny _ _ (if (((HT.sIx items.size 0 lo:Nat):Int) == 0 && (1:Int) == 1 && (HT.sIx items.size items.size hi-HT.sIx items.size 0 lo) == items.size)=true then _ else _) _ _ s
 rw [if_pos hyes]
 unfold Builtin.Tuple.tupleIsExact
 first
  |exact wpAny_bind (wpAny_bind (wpAny_typeOf ht.typeIs (wpAny_pure (by rw [if_pos (by decide)];exact wpAny_bind (wpAny_rule (wpAny_pure ⟨_,rfl,wpAny_pure h⟩))))))
  |exact wpAny_bind (wpAny_bind (wpAny_typeOf ht.typeIs (wpAny_pure (by rw [if_pos (by decide)];exact wpAny_bind (wpAny_rule (wpAny_bind (wpAny_pure (wpAny_pure ⟨_,rfl,wpAny_pure h⟩))))))))
  |exact wpAny_bind (wpAny_bind (wpAny_bind (wpAny_typeOf ht.typeIs (wpAny_pure (by rw [if_pos (by decide)];exact wpAny_bind (wpAny_rule (wpAny_pure (wpAny_pure ⟨_,rfl,wpAny_pure h⟩))))))))
def rSD (K:Fg):V->Option Int->Option Int->Hp->VK->Prop:=λx lo hi H Q=>∃ G dx d,zu G H/\zBu K G H dx x/\slD dx lo hi=some d/\∀ v G' H',zg G H G' H'->Rep K G' d v->Q v H'
theorem part_of (p:IsPart v o):∃ l:Option (Int×Tok),v=partValue l/\l.map (·.1)=o:=by
 cases p with
 |none=>exact ⟨none,rfl,rfl⟩
 |int i t=>exact ⟨some (i,t),rfl,rfl⟩
theorem sl_D:SlR X (rSD X.K):=by
 intro pins s σ H x v vl vu lo hi sl Q I rx hs pl pu ⟨G,dx,d,sm,r1,e,k⟩
 cases dx with
 |tup xs=>
  cases e
  obtain ⟨a1,vs1,rfl,q1,w1⟩:=r1.tup sm
  by_cases hw:HT.sIx vs1.length 0 lo=0/\HT.sIx vs1.length vs1.length hi=vs1.length
  ·cases rx
   obtain ⟨its,vv,ht,hz⟩:=I.tuple q1
   have hlen:its.toArray.size=vs1.length:=by rw [List.size_toArray];exact vv.length.symm
   refine ⟨"tuple",_,PyProof.Rows.slot_tuple_getitem.lookup,ht.typeIs,zCh ht hs pl pu (by rw [hlen];exact hw) ⟨.ref a1,H,I,rfl,k _ G H (zg.refl sm) ?_⟩⟩
   have e1:zj xs lo hi=xs:=by
    unfold zj
    rw [w1.length,hw.1,hw.2,List.drop_zero,Nat.sub_zero,<- w1.length,List.take_length]
   rw [e1]
   exact r1.rep λ_ z=>by cases z
  ·exact zSM pins s σ H _ v vl vu lo hi sl Q I rx hs pl pu ⟨a1,vs1,rfl,q1,hw,λp hp=>k _ _ _ (zg.new sm hp) (zBN.mpr ⟨p,_,rfl,zR,Reps.mono (yq (sm.free hp)) _ _ (zK8 lo hi w1)⟩)⟩
 |str z=>
  simp only [slD] at e
  split at e
  ·rename_i hz
   cases e
   rw [r1.str] at rx
   obtain ⟨t,rfl⟩:=rx
   obtain ⟨l,rfl,el⟩:=part_of pl
   obtain ⟨u,rfl,eu⟩:=part_of pu
   refine ⟨"str",_,F.slot_str_getitem.lookup,typeIs_str _ _ _,wpAny_getItem_str_slice (l:=l) (u:=u) (st:=none) hs rfl ?_⟩
   subst el eu
   refine post_val_or_str ⟨Nat.le_trans (Txt.slice_le z _ _) (zH5 hz),λt' k'=>⟨.str _,H,I.tok _,⟨_,rfl⟩,k _ G H (zg.refl sm) (zAU.mpr rfl)⟩⟩
  ·cases e
 |_=>cases e
theorem qL (ha:SR X a f) (hl:SO X lo ol) (hh:SO X hi oh):SE X (.Subscript a (.Slice lo hi none p2) pos) (b3S f ol oh slD):=zBo (zIs sl_D ha hl hh) λσ H Q=>by
 rintro ⟨G,ρ,d,s,er,ef,k⟩
 obtain ⟨x,e1,ef⟩:=Option.bind_eq_some_iff.mp ef
 obtain ⟨l,e2,ef⟩:=Option.bind_eq_some_iff.mp ef
 obtain ⟨h,e3,ef⟩:=Option.bind_eq_some_iff.mp ef
 exact ⟨G,ρ,x,s,er,e1,λv1 G1 H1 t1 r1=>⟨G1,ρ,l,t1.s,er.step t1,e2,λG2 H2 t2=>⟨G2,ρ,h,t2.s,er.step (t1.trans t2),e3,λG3 H3 t3=>⟨G3,x,d,t3.s,r1.step (t2.trans t3),ef,λv G' H' t r=>k v G' H' (((t1.trans t2).trans t3).trans t) r⟩⟩⟩⟩
theorem zNQ (ha:SR X a f) (hl:SO X lo ol) (hh:SO X hi oh):SF X (.Subscript a (.Slice lo hi none p2) pos) (b3S f ol oh slF):=zBo (zIs zPr ha hl hh) λσ H Q=>by
 rintro ⟨G,ρ,d,s,er,ef,k⟩
 obtain ⟨x,e1,ef⟩:=Option.bind_eq_some_iff.mp ef
 obtain ⟨l,e2,ef⟩:=Option.bind_eq_some_iff.mp ef
 obtain ⟨h,e3,ef⟩:=Option.bind_eq_some_iff.mp ef
 cases x with
 |lst xs=>
  cases ef
  refine ⟨G,ρ,_,s,er,e1,λv1 G1 H1 t1 r1=>⟨G1,ρ,l,t1.s,er.step t1,e2,λG2 H2 t2=>⟨G2,ρ,h,t2.s,er.step (t1.trans t2),e3,λG3 H3 t3=>?_⟩⟩⟩
  have tt:=(t1.trans t2).trans t3
  obtain ⟨a1,vs1,rfl,q1,w1⟩:=(r1.step (t2.trans t3)).list t3.s
  exact ⟨a1,vs1,rfl,q1,λp hp=>k p _ G3 _ (tt.trans (zg.newH t3.s hp)) (tt.h.free hp) (t3.s.free hp) zR (zK8 l h w1)⟩
 |_=>cases ef
def zDX:D->Option D
 |.tup xs=>some (.int xs.length)
 |.lst xs=>some (.int xs.length)
 |.str z=>if z.length<=1000000 then some (.int z.length) else none
 |_=>none
theorem zo:zAT X (.builtin "len") (cR X.K zDX):=by
 intro pins s σ H xs us Q I r h
 obtain ⟨G,d1,d,x,rfl,sm,r1,e,k⟩:=h
 cases d1 with
 |tup ys=>
  cases e
  obtain ⟨a,vs,rfl,q,w⟩:=r1.tup sm
  refine zDs pins s σ H _ us Q I r ⟨a,vs,rfl,.inr q,?_⟩
  rw [<- w.length]
  exact k _ G H (zg.refl sm) (yB.mpr rfl)
 |lst ys=>
  cases e
  obtain ⟨a,vs,rfl,q,w⟩:=r1.list sm
  refine zDs pins s σ H _ us Q I r ⟨a,vs,rfl,.inl q,?_⟩
  rw [<- w.length]
  exact k _ G H (zg.refl sm) (yB.mpr rfl)
 |str z=>
  simp only [zDX] at e
  split at e
  ·rename_i hz
   cases e
   have hx:=r1.str
   subst hx
   exact zG2 pins s σ H _ us Q I r ⟨z,rfl,zH5 hz,k _ G H (zg.refl sm) (yB.mpr rfl)⟩
  ·cases e
 |_=>cases e
def zGH:D->Option D
 |.tup xs=>some (.tup xs)
 |.lst xs=>some (.tup xs)
 |_=>none
theorem yW:zAT X (.type "tuple") (cR X.K zGH):=by
 intro pins s σ H xs us Q I r h
 obtain ⟨G,d1,d,x,rfl,sm,r1,e,k⟩:=h
 cases d1 with
 |tup ys=>
  cases e
  obtain ⟨a,vs,rfl,q,w⟩:=r1.tup sm
  exact zCt pins s σ H _ us Q I r ⟨a,vs,rfl,.inr ⟨q,k _ G H (zg.refl sm) (r1.rep λ_ z=>by cases z)⟩⟩
 |lst ys=>
  cases e
  obtain ⟨a,vs,rfl,q,w⟩:=r1.list sm
  exact zCt pins s σ H _ us Q I r ⟨a,vs,rfl,.inl ⟨q,λp hp=>k _ _ _ (zg.new sm hp) (zBN.mpr ⟨p,_,rfl,zR,Reps.mono (yq (sm.free hp)) _ _ w⟩)⟩⟩
 |_=>cases e
def zKL:D->Option (List D)
 |.tup xs=>some xs
 |.lst xs=>some xs
 |_=>none
theorem zEi:zAT X (.type "list") (cF X.K zKL):=by
 intro pins s σ H xs us Q I r h
 obtain ⟨G,d1,ys,x,rfl,sm,r1,e,k⟩:=h
 cases d1 with
 |tup zs=>
  cases e
  obtain ⟨a,vs,rfl,q,w⟩:=r1.tup sm
  exact zDt pins s σ H _ us Q I r ⟨a,vs,rfl,.inr q,λp hp=>k p vs G _ (zg.newH sm hp) hp (sm.free hp) zR w⟩
 |lst zs=>
  cases e
  obtain ⟨a,vs,rfl,q,w⟩:=r1.list sm
  exact zDt pins s σ H _ us Q I r ⟨a,vs,rfl,.inl q,λp hp=>k p vs G _ (zg.newH sm hp) hp (sm.free hp) zR w⟩
 |_=>cases e
def zSc:D->Option D
 |.int i=>some (.int i)
 |.bl b=>some (.int (if b then 1 else 0))
 |_=>none
theorem zEj:zAT X (.type "int") (cR X.K zSc):=by
 intro pins s σ H xs us Q I r h
 obtain ⟨G,d1,d,x,rfl,sm,r1,e,k⟩:=h
 cases d1 with
 |int i=>cases e;have hx:=r1.int;subst hx;exact zGw pins s σ H _ us Q I r (.inl ⟨i,rfl,k _ G H (zg.refl sm) (yB.mpr rfl)⟩)
 |bl b=>cases e;have hx:=r1.bl;subst hx;exact zGw pins s σ H _ us Q I r (.inr ⟨b,rfl,k _ G H (zg.refl sm) (yB.mpr rfl)⟩)
 |_=>cases e
def zH7 (x:Int):List Int->List Int
 | []=>[x]
 |y::ys=>if x<=y then x::y::ys else y::zH7 x ys
def zA7:List Int->List Int
 | []=>[]
 |x::xs=>zH7 x (zA7 xs)
def ltS (a b:Str):Bool:=decide (a.cps.toList<b.cps.toList)
def zH8 (x:Str):List Str->List Str
 | []=>[x]
 |y::ys=>if ltS y x then y::zH8 x ys else x::y::ys
def zA8:List Str->List Str
 | []=>[]
 |x::xs=>zH8 x (zA8 xs)
def zJt:List D->Option (List Int)
 | []=>some []
 |.int i::r=>(zJt r).map (i :: ·)
 |_=>none
def zD9:List D->Option (List Str)
 | []=>some []
 |.str i::r=>(zD9 r).map (i :: ·)
 |_=>none
def zEk:D->Option (List D):=λd=>(zKL d).bind λxs=>if xs.length<64 then match zJt xs with
  |some is=>some ((zA7 is).map .int)
  |none=>(zD9 xs).map λss=>(zA8 ss).map .str
 else none
end
end RD
namespace RD
open PySem PySem.Spec PyProof.Rows L2
def zFl (names:List (Str×NameKind)) (cells:List (Str×Addr)):List (Str×Addr):=((names.filter λy=>y.2 == .free).reverse).map λy=>(y.1,(cells.lookup y.1).getD 0)
theorem zDy {env:Env}:∀ (names:List (Str×NameKind)) (acc:List (Str×Addr)),(∀ y∈names,y.2 = .free->∃ c,env.cells.lookup y.1=some c) ->
  (forIn names acc (λ(x:Str×NameKind) (cs:List (Str×Addr))=>(if x.2 == .free then (do let c <- cellOf env x.1;pure (ForInStep.yield ((x.1,c)::cs))) else pure (ForInStep.yield cs):Sem (ForInStep (List (Str×Addr))))))=pure (zFl names env.cells++acc)
 | [],acc,_=>by simp [zFl]
 |(n,k)::r,acc,h=>by
  have ih:=λacc=>zDy r acc λy hy=>h y (List.mem_cons_of_mem _ hy)
  rw [List.forIn_cons]
  by_cases hk:(k == NameKind.free)=true
  ·obtain ⟨c,hc⟩:=h (n,k) List.mem_cons_self (by simpa using hk)
   simp only [hk,if_true]
   have e1:cellOf env n=pure c:=by unfold cellOf;rw [hc]
   rw [e1]
   show (forIn r ((n,c)::acc) _:Sem (List (Str×Addr)))=_
   rw [ih]
   congr 1
   simp [zFl,hk,hc]
  ·simp only [hk,if_false]
   show (forIn r acc _:Sem (List (Str×Addr)))=_
   rw [ih]
   congr 1
   simp [zFl,hk]
theorem zCz {scope:Scope} {env:Env} (h:∀ y∈scope.names,y.2 = .free->∃ c,env.cells.lookup y.1=some c):closureFor scope env=pure (zFl scope.names env.cells):=by
 have:=zDy scope.names [] h
 rw [List.append_nil] at this
 unfold closureFor
 show (forIn scope.names [] _ >>= λcs=>pure cs)=_
 have e2:(forIn scope.names ([]:List (Str×Addr)) (λ(x:Str×NameKind) (cs:List (Str×Addr))=>(match x with|(name,kind)=>if kind == .free then (do let c <- cellOf env name;pure (ForInStep.yield ((name,c)::cs))) else pure (ForInStep.yield cs):Sem (ForInStep (List (Str×Addr))))))=pure (zFl scope.names env.cells):=this
 first
  |exact (congrArg (λt=>t >>= λcs=>pure cs) e2).trans rfl
  |(erw [e2];rfl)
theorem zEl {cells:List (Str×Addr)} (h:(zFl names cells).lookup x=some c):(x,NameKind.free)∈names/\c=(cells.lookup x).getD 0:=by
 have hm:=PySem.mem_of_lookup h
 obtain ⟨y,hy,e⟩:=List.mem_map.mp hm
 obtain ⟨h1,h2⟩:=List.mem_filter.mp (List.mem_reverse.mp hy)
 cases e
 obtain ⟨n,k⟩:=y
 have:k = .free:=by simpa using h2
 subst this
 exact ⟨h1,rfl⟩
theorem zC0 {F:Str->Addr}:∀ (l:List (Str×NameKind)) {x:Str},(∃ k,(x,k)∈l)->(l.map λy=>(y.1,F y.1)).lookup x=some (F x)
 | [],_,h=>by obtain ⟨_,h⟩:=h;cases h
 |(n,k)::r,x,h=>by
  rw [List.map_cons,List.lookup_cons]
  by_cases e:x=n
  ·subst e;simp
  ·have:(x == n)=false:=by simpa using e
   rw [this]
   refine zC0 r ?_
   obtain ⟨k',h⟩:=h
   rcases List.mem_cons.mp h with q|q
   ·cases q;exact absurd rfl e
   ·exact ⟨k',q⟩
theorem zIz {cells:List (Str×Addr)} (h:(x,NameKind.free)∈names):(zFl names cells).lookup x=some ((cells.lookup x).getD 0):=by
 unfold zFl
 exact zC0 (F:=λx=>(cells.lookup x).getD 0) _ ⟨.free,List.mem_reverse.mpr (List.mem_filter.mpr ⟨h,by simp⟩)⟩
def zA9 (N nm:List Str) (inner outer:List (Str×NameKind)):Bool:=
 inner.all (λy=>y.2 != .cell && y.1 != "" && (y.2 != .local || inner.lookup y.1 == some .local) && (y.2 != .free || outer.lookup y.1 == some .cell || outer.lookup y.1 == some .free)) &&
 N.all (λx=>nm.contains x || match inner.lookup x with|none=>true|some .free=>true|some .globalImplicit=>true|some .globalExplicit=>true|_=>false)
def zHB (N nm:List Str):List Str:=N.map (λy=>if nm.contains y then ("" : Str) else y)++nm
def yj (X:Cx) (nm:List Str) (scope:Scope) (C:Addr) (s₃:Shared) (H₃:Hp) (ex:List Addr):Cx:=
 { X with N:=zHB X.N nm,s₀:=s₃,H₀:=H₃,env:=compEnvC scope (zFl scope.names X.env.cells) C X.env,outer:=X.stack,ex:=ex,fn:=λ_=>false,pn:=[],xe:=λ_ _=>False }
theorem zA0 {env:Env} {x:Str} {k:NameKind}:∀ {names:List (Str×NameKind)},(names.map λ(n,k)=>if (k == NameKind.free && env.scope.kind == .function && env.kindOf n == some .cell) then (n,NameKind.cell) else (n,k)).lookup x=some k ->
  ∃ k',names.lookup x=some k'/\(k=k'\/(k = .cell/\k' = .free))
 | [],h=>by simp at h
 |(n,k0)::r,h=>by
  have ih:=@zA0 env x k r
  rw [List.map_cons] at h
  dsimp only at h
  rw [List.lookup_cons]
  by_cases e:x=n
  ·subst e
   simp only [BEq.rfl]
   refine ⟨k0,rfl,?_⟩
   by_cases hc:(k0 == NameKind.free && env.scope.kind == .function && env.kindOf x == some .cell)=true
   ·rw [if_pos hc,List.lookup_cons] at h
    simp only [BEq.rfl] at h
    cases h
    simp only [Bool.and_eq_true,beq_iff_eq] at hc
    exact .inr ⟨rfl,hc.1.1⟩
   ·rw [if_neg hc,List.lookup_cons] at h
    simp only [BEq.rfl] at h
    cases h
    exact .inl rfl
  ·have e':(x == n)=false:=by simpa using e
   rw [e']
   refine ih ?_
   by_cases hc:(k0 == NameKind.free && env.scope.kind == .function && env.kindOf n == some .cell)=true
   ·rw [if_pos hc,List.lookup_cons,e'] at h;exact h
   ·rw [if_neg hc,List.lookup_cons,e'] at h;exact h
noncomputable def zM (g:D->Rho->Option Rho) (p:ROb) (f:ROd):List D->Rho->Option (List D)
 | [],_=>some []
 |d::ds,ρ=>(g d ρ).bind λρ1=>(p ρ1).bind λb=>if b=true then (f ρ1).bind λx=>(zM g p f ds ρ).map (x :: ·) else zM g p f ds ρ
noncomputable def zK (m:Nat) (fl:ROl) (g:D->Rho->Option Rho) (p:ROb) (f:ROd):ROl:=λρ=>(fl ρ).bind λds=>if ds.length<=1000000 then zM g p f ds (ρ++List.replicate m .un) else none
def STs (X:Cx) (ifs:List Expr) (p:ROb):Prop:=(ifs = []/\p=λ_=>some true)\/∃ c,ifs = [c]/\SB X c p
def zFS (H:Hp) (ρ:Rho) (σ:L2.St) (a:Addr):Prop:=∀ (j:Nat) (u:Sl) (b:Addr),ρ[j]?=some u->u.isObj=true->σ[j]?=some (some (.ref b))->a∉fpS H u b
theorem Er.app {K:Fg} {G H:Hp} {ρ:Rho} {σ:L2.St} (e:Er K G H ρ σ) (m:Nat) (τ:L2.St) (hτ:τ.length=m):Er K G H (ρ++List.replicate m .un) (σ++τ):=by
 have low:∀ {i:Nat} {s:Sl},(ρ++List.replicate m .un)[i]?=some s->s = .un\/(i<ρ.length/\ρ[i]?=some s):=λ{i s} h=>by
  by_cases hi:i<ρ.length
  ·rw [List.getElem?_append_left hi] at h;exact .inr ⟨hi,h⟩
  ·rw [List.getElem?_append_right (by omega),List.getElem?_replicate] at h
   split at h<;>cases h
   exact .inl rfl
 have up:∀ {i:Nat},i<ρ.length->(σ++τ)[i]?=σ[i]?:=λ{i} hi=>List.getElem?_append_left (by rw [<- e.len];exact hi)
 refine ⟨by simp [e.len,hτ],λi d h=>?_,λi u h o=>?_,λi j s t a b ne h1 o1 h2 o2 q1 q2=>?_⟩
 ·rcases low h with z|⟨hi,q⟩
  ·cases z
  ·rw [up hi];exact e.val i d q
 ·rcases low h with z|⟨hi,q⟩
  ·subst z;cases o
  ·rw [up hi];exact e.slot i u q o
 ·rcases low h1 with z|⟨hi,q⟩
  ·subst z;cases o1
  rcases low h2 with z|⟨hj,q'⟩
  ·subst z;cases o2
  rw [up hi] at q1
  rw [up hj] at q2
  exact e.sep i j s t a b ne q o1 q' o2 q1 q2
section
variable {X:Cx} {tg iter elt:Expr} {ifs:List Expr} {scope:Scope} {pos:Pos} {nm:List Str} {fl:ROl} {gd:D->Rho->Option Rho} {p:ROb} {f:ROd}
theorem qH {inner outer:List (Str×NameKind)} (h:zA9 N nm inner outer=true) {y:Str×NameKind} (hy:y∈inner) :
  y.2≠.cell/\y.1 ≠ ""/\(y.2 = .local->inner.lookup y.1=some .local)/\(y.2 = .free->outer.lookup y.1=some .cell\/outer.lookup y.1=some .free):=by
 unfold zA9 at h
 rw [Bool.and_eq_true,List.all_eq_true] at h
 have:=h.1 y hy
 simp only [Bool.and_eq_true,Bool.or_eq_true,bne_iff_ne,ne_eq,beq_iff_eq] at this
 obtain ⟨⟨⟨h1,h2⟩,h3⟩,h4⟩:=this
 refine ⟨h1,h2,λe=>?_,λe=>?_⟩
 ·rcases h3 with z|z
  ·exact absurd e z
  ·exact z
 ·rcases h4 with (z|z)|z
  ·exact absurd e z
  ·exact .inl z
  ·exact .inr z
theorem zNR {N nm:List Str} {inner outer:List (Str×NameKind)} (h:zA9 N nm inner outer=true) (hx:x∈N) (hn:¬ nm.contains x=true) (hk:inner.lookup x=some k):k≠.local/\k≠.cell:=by
 unfold zA9 at h
 rw [Bool.and_eq_true,List.all_eq_true,List.all_eq_true] at h
 have:=h.2 x hx
 rw [Bool.or_eq_true] at this
 rcases this with z|z
 ·exact absurd z hn
 ·rw [hk] at z
  cases k<;>first|exact ⟨by decide,by decide⟩|exact absurd z (by decide)
theorem zK9 {s:Shared} (I:Inv X pins σ H s) (hk:scope.kind = .function) (hok:zA9 X.N nm scope.names X.env.scope.names=true) (hex:∀ b∈ex,FpOk X pins H b) (hlt:∀ b∈ex,b<s.heap.objs.size) :
  (yj X nm scope s.heap.objs.size s H ex).Ok:=by
 have cellsOk:∀ x c,(zFl scope.names X.env.cells).lookup x=some c->X.env.cells.lookup x=some c:=λx c e=>by
  obtain ⟨h1,h2⟩:=zEl e
  have h3:=(qH hok h1).2.2.2 rfl
  obtain ⟨c',h4⟩:=I.ok.has x h3
  rw [h4] at h2
  rw [h4,h2];rfl
 refine ⟨I.ok.mod,?_,I.ok.glob,I.ok.blt,Nat.le_refl _,λx y c h1 h2=>I.ok.inj x y c (cellsOk x c h1) (cellsOk y c h2),λx hx=>?_,λx c z=>(by cases z),I.ok.hd,I.ok.frames,.inl rfl,λb hb=>⟨?_,λx c e=>?_⟩,I.bs,Nat.le_trans I.ok.bsz I.sz,λb o e hb=>?_,λb hb hf=>?_,I.stack,I.stkFree⟩
 ·show (relabel scope X.env).kind = .function
  exact hk
 ·have:∃ k,(relabel scope X.env).names.lookup x=some k/\(k = .cell\/k = .free):=by
   rcases hx with z|z
   ·exact ⟨_,z,.inl rfl⟩
   ·exact ⟨_,z,.inr rfl⟩
  obtain ⟨k,e,hk'⟩:=this
  obtain ⟨k',e1,e2⟩:=zA0 e
  have hm:=PySem.mem_of_lookup e1
  have hc:=(qH hok hm).1
  have hf:k' = .free:=by
   rcases e2 with z|⟨_,z⟩
   ·subst z
    rcases hk' with z|z
    ·exact absurd z hc
    ·exact z
   ·exact z
  subst hf
  exact ⟨_,zIz hm⟩
 ·exact Nat.ne_of_lt (hlt b hb)
 ·exact (hex b hb).2.2.2.2.1 x c (cellsOk x c e)
 ·have h1:=(hex b hb).2.2.2.1
  rcases h1 with z|z
  ·exact I.ok.noex b o e z
  ·exact absurd (Nat.lt_of_lt_of_le (Heap.lt_size (I.ok.bs b o e).1) z) (Nat.lt_irrefl _)
 ·have h1:=I.stkSub b hf
  rcases List.mem_cons.mp h1 with z|z
  ·exact (hex b hb).2.1 z
  ·exact (hex b hb).2.2.1 z
theorem zLA (N nm:List Str):(zHB N nm).length=N.length+nm.length:=by simp [zHB]
theorem zJu {s:Shared} (I:Inv X pins σ H s) (hk:scope.kind = .function) (hok:zA9 X.N nm scope.names X.env.scope.names=true) (hex:∀ b∈ex,FpOk X pins H b) (hlt:∀ b∈ex,b<s.heap.objs.size) {h₁:Heap} {m₁:MGt} {tk:Nat} (hn:h₁.Ns s.heap.objs.size m₁) (keep:∀ b o,s.heap.get? b=some o->h₁.get? b=some o) :
  Inv (yj X nm scope s.heap.objs.size s H ex) [] (σ++List.replicate nm.length none) H { s with heap:=h₁,toks:=tk }:=by
 have ok:=zK9 (nm:=nm) (scope:=scope) I hk hok hex hlt
 have cellsOk:∀ x c,(zFl scope.names X.env.cells).lookup x=some c->X.env.cells.lookup x=some c:=λx c e=>by
  obtain ⟨h1,h2⟩:=zEl e
  have h3:=(qH hok h1).2.2.2 rfl
  obtain ⟨c',h4⟩:=I.ok.has x h3
  rw [h4] at h2
  rw [h4,h2];rfl
 refine ⟨ok,rfl,I.bare,Un.kept keep,⟨m₁,hn,λi x v e1 e2 e3=>?_⟩,λx c e=>?_,I.hok.fresh (Nat.le_refl _),λx c e=>I.freeC x c (cellsOk x c e),λp hp=>(by simp [yj] at hp),I.hok.kept keep,?_⟩
 ·have hi:i<X.N.length:=by
   by_cases hi:i<σ.length
   ·rw [<- I.len];exact hi
   ·rw [List.getElem?_append_right (by omega),List.getElem?_replicate] at e2
    split at e2<;>cases e2
  have e1':(X.N.map (λy=>if nm.contains y then ("" : Str) else y))[i]?=some x:=by
   have:(zHB X.N nm)[i]?=some x:=e1
   unfold zHB at this
   rwa [List.getElem?_append_left (by simpa using hi)] at this
  have e2':σ[i]?=some (some v):=by rwa [List.getElem?_append_left (by rw [I.len];exact hi)] at e2
  rw [List.getElem?_map] at e1'
  obtain ⟨y,ey,e4⟩:=Option.map_eq_some_iff.mp e1'
  have e3':∃ k,(relabel scope X.env).names.lookup x=some k/\(k = .local\/k = .cell\/k = .free):=by
   rcases e3 with z|z|z
   ·exact ⟨_,z,.inl rfl⟩
   ·exact ⟨_,z,.inr (.inl rfl)⟩
   ·exact ⟨_,z,.inr (.inr rfl)⟩
  obtain ⟨k,hk1,hk2⟩:=e3'
  obtain ⟨k',hk3,hk4⟩:=zA0 hk1
  have hm:=PySem.mem_of_lookup hk3
  by_cases hc:nm.contains y=true
  ·rw [if_pos hc] at e4
   exact absurd e4.symm (qH hok hm).2.1
  ·rw [if_neg hc] at e4
   subst e4
   obtain ⟨n1,n2⟩:=zNR hok (List.mem_of_getElem? ey) hc hk3
   have hf:k' = .free:=by
    rcases hk4 with z|⟨_,z⟩
    ·subst z
     rcases hk2 with z|z|z
     ·exact absurd z n1
     ·exact absurd z n2
     ·exact z
    ·exact z
   subst hf
   have ho:=(qH hok hm).2.2.2 rfl
   obtain ⟨m0,hn0,hl0⟩:=I.loc
   obtain ⟨u,r,l⟩:=hl0 i y v ey e2' (by rcases ho with z|z;exact .inr (.inl z);exact .inr (.inr z))
   refine ⟨u,r,?_⟩
   rcases l with ⟨z,_⟩|⟨_,c,hc1,hc2⟩
   ·have z':X.env.scope.names.lookup y=some .local:=z
    rcases ho with q|q
    ·rw [q] at z';cases z'
    ·rw [q] at z';cases z'
   ·right
    refine ⟨?_,c,?_,?_⟩
    ·rcases hk2 with z|z|z
     ·subst z
      rcases hk4 with q|⟨q,_⟩<;>cases q
     ·exact .inl (by rw [<- z];exact hk1)
     ·exact .inr (by rw [<- z];exact hk1)
    ·show (zFl scope.names X.env.cells).lookup y=some c
     rw [zIz hm,hc1];rfl
    ·obtain ⟨o,q1,q2⟩:=hc2
     exact ⟨o,keep _ _ q1,q2⟩
 ·obtain ⟨v,o,q1,q2⟩:=I.cell x c (cellsOk x c e)
  exact ⟨v,o,keep _ _ q1,q2⟩
 ·show _=(zHB X.N nm).length
  rw [zLA,List.length_append,List.length_replicate,I.len]
def zDz (n:Nat) (g:D->Rho->Option Rho):Prop:=∀ d ρ ρ1,g d ρ=some ρ1->ρ1.length=ρ.length/\(∀ i,i<n->ρ1[i]?=ρ[i]?)/\∀ (i:Nat) (s:Sl),ρ1[i]?=some s->ρ[i]?=some s\/∃ d,s = .v d
theorem yK (h:n<=i):zDz n (gN i):=λd ρ ρ1 e=>by
 cases e
 exact ⟨by simp,λj hj=>List.getElem?_set_ne (by omega),λj u h=>(yF h).elim (λz=>.inr ⟨d,z.2.1⟩) λz=>.inl z.2⟩
theorem Er.drop {K:Fg} {G H:Hp} {ρ ρ1:Rho} {σ:L2.St} {m:Nat} (e:Er K G H ρ1 σ) (hl:ρ1.length=(ρ++List.replicate m Sl.un).length) (hk:∀ i,i<ρ.length->ρ1[i]?=(ρ++List.replicate m Sl.un)[i]?):Er K G H (ρ++List.replicate m .un) σ:=by
 have low:∀ {i:Nat} {s:Sl},(ρ++List.replicate m .un)[i]?=some s->s = .un\/ρ1[i]?=some s:=λ{i s} h=>by
  by_cases hi:i<ρ.length
  ·right;rw [hk i hi];exact h
  ·rw [List.getElem?_append_right (by omega),List.getElem?_replicate] at h
   split at h<;>cases h
   exact .inl rfl
 refine ⟨hl.symm.trans e.len,λi d h=>?_,λi u h o=>?_,λi j s t a b ne h1 o1 h2 o2 q1 q2=>?_⟩
 ·rcases low h with z|q
  ·cases z
  ·exact e.val i d q
 ·rcases low h with z|q
  ·subst z;cases o
  ·exact e.slot i u q o
 ·rcases low h1 with z|q
  ·subst z;cases o1
  rcases low h2 with z|q'
  ·subst z;cases o2
  exact e.sep i j s t a b ne q o1 q' o2 q1 q2
theorem Er.toSt {K:Fg} {G H:Hp} {ρ:Rho} {σ:L2.St} (e:Er K G H ρ σ) (s:zu G H):StR K G (q8 H ρ σ) G H ρ σ:=
 ⟨e,⟨s,zu.refl _,zEf,λb o e n=>by rw [e] at n;cases n⟩,λi u a h o q c m=>zDW h o q m⟩
theorem zFS.grow {K:Fg} {G H H':Hp} {ρ:Rho} {σ:L2.St} {a:Addr} (e:Er K G H ρ σ) (t:zu H H') (n:zFS H ρ σ a):zFS H' ρ σ a:=λj u b h o q=>by rw [e.fp t h o q];exact n j u b h o q
theorem zFS.upd {K:Fg} {G H:Hp} {ρ:Rho} {σ:L2.St} {a:Addr} {o:HO} (e:Er K G H ρ σ) (n:zFS H ρ σ a):zFS (L2.upd H a o) ρ σ a:=λj u b h ob q=>by
 obtain ⟨b',h1,h2,_⟩:=e.slot j u h ob
 rw [q] at h1;cases h1
 rw [(h2.same (zu.refl _) λc m v z=>by rw [zY (λy=>n j u b h ob q (by rw [<- y];exact m))];exact z).2]
 exact n j u b h ob q
theorem zFS.new {K:Fg} {G H:Hp} {ρ:Rho} {σ:L2.St} {a:Addr} (e:Er K G H ρ σ) (n:H a=none):zFS H ρ σ a:=λj u b h o q m=>by
 obtain ⟨⟨x,z⟩,_⟩:=e.there h o q m
 rw [n] at z;cases z
theorem Er.updOther {K:Fg} {G H:Hp} {ρ:Rho} {σ:L2.St} {a:Addr} {o:HO} (e:Er K G H ρ σ) (n:zFS H ρ σ a):Er K G (upd H a o) ρ σ:=e.hop (zu.refl _) λi s b h ob q c m=>
 ⟨λu z=>by rw [zY (λy=>n i s b h ob q (by rw [<- y];exact m))];exact z,(e.there h ob q m).2⟩
theorem zFS.app {K:Fg} {G H H':Hp} {ρ:Rho} {σ τ:L2.St} {a:Addr} {m:Nat} (n:zFS H' ρ σ a) (e:Er K G H ρ σ):zFS H' (ρ++List.replicate m .un) (σ++τ) a:=λj u b h1 h2 h3=>by
 by_cases hj:j<ρ.length
 ·rw [List.getElem?_append_left hj] at h1
  rw [List.getElem?_append_left (by rw [<- e.len];exact hj)] at h3
  exact n j u b h1 h2 h3
 ·rw [List.getElem?_append_right (by omega),List.getElem?_replicate] at h1
  split at h1<;>cases h1
  cases h2
theorem zFS.drop {ρ ρ1:Rho} (n:zFS H ρ1 σ a) (hk:∀ i,i<ρ.length->ρ1[i]?=(ρ++List.replicate m Sl.un)[i]?):zFS H (ρ++List.replicate m .un) σ a:=λj u b h1 h2 h3=>by
 by_cases hj:j<ρ.length
 ·exact n j u b (by rw [hk j hj];exact h1) h2 h3
 ·rw [List.getElem?_append_right (by omega),List.getElem?_replicate] at h1
  split at h1<;>cases h1
  cases h2
theorem zNS {K:Fg} {G H:Hp} {ρ ρ1:Rho} {σ σ1:L2.St} {a:Addr} {o:HO} (e:Er K G H ρ σ) (n:zFS H ρ σ a) (st:StR K G (q8 H ρ σ) G H ρ1 σ1) (k:∀ (i:Nat) (s:Sl),ρ1[i]?=some s->ρ[i]?=some s\/∃ d,s = .v d) (h:H a=some o):zFS H ρ1 σ1 a:=λj u b h1 h2 h3 m=>by
 cases ho:u.isOwn with
 |true=>
  have q:=st.ows j u b h1 ho h3 a m
  unfold q8 at q
  split at q
  ·rename_i hh
   obtain ⟨i',u',a',w1,w2,w3,w4⟩:=hh
   exact n i' u' a' w1 (Sl.obj_of_own w2) w3 w4
  ·rw [h] at q;cases q
 |false=>
  rcases k j u h1 with z|⟨d,z⟩
  ·cases u with
   |b c x=>
    obtain ⟨a1,e1,e2,_⟩:=e.slot j _ z rfl
    obtain ⟨a2,e3,e4,_⟩:=st.er.slot j _ h1 rfl
    rw [h3] at e3;cases e3
    have y1:=e2.2;have y2:=e4.2
    subst y1;subst y2
    exact n j _ _ z rfl e1 m
   |_=>first|(cases h2;done)|(cases ho;done)
  ·subst z;cases h2
theorem zHC {R:Result->Shared->Prop} (W:Nat->Shared->Prop) (turn:∀ n s,W n s->wpAny (model prog w) A (pyNext it) (λr s₁=>match r with
   |none=>R (.ok .next) s₁
   |some v=>wpAny (model prog w) A (letOwnedTupleGo tg it v) (λ_ s₁=>wpAny (model prog w) A (assign tg env v) (λ_ s₂=>
     wpAny (model prog w) A (forIn ifs true λc r=>if r=true then do let ok <- isTrue c env (eval c env);pure (ForInStep.yield ok) else pure (ForInStep.yield r)) (λok s₃=>
      if ok=true then wpAny (model prog w) A (eval elt env) (λx s₄=>
       wpAny (model prog w) A (call (.builtin "list.append") [acc,x]) (λ_ s₅=>∃ m,m<n/\W m s₅) (notedBy (model prog w) A env λe s'=>R (.error e) s') s₄) (notedBy (model prog w) A env λe s'=>R (.error e) s') s₃
      else ∃ m,m<n/\W m s₃) (notedBy (model prog w) A env λe s'=>R (.error e) s') s₂) (notedBy (model prog w) A env λe s'=>R (.error e) s') s₁) (notedBy (model prog w) A env λe s'=>R (.error e) s') s₁) (notedBy (model prog w) A env λe s'=>R (.error e) s') s) (n:Nat) (h:W n s) :
  codeAny (model prog w) A (.compLoop (.ListComp elt [⟨tg,iter,ifs,0⟩] scope pos) 0 it acc env) R s:=by
 refine codeAny_loop rfl W (λn s hI=>?_) n h
 show wpAny _ A ((compTurn (.ListComp elt [⟨tg,iter,ifs,0⟩] scope pos) 0 it acc env).onRaise (λx=>do noteFrame x env;theTreesLotGoes x)) _ _ s
 refine wpAny_noted ?_
 rw [compTurn_list]
 refine wpAny_bind (wpAny_standAt (wpAny_bind (wpAny_mono (turn n s hI) (λr s₁ h₁=>?_) λ_ _ h'=>h')))
 cases r with
 |none=>exact wpAny_pure h₁
 |some v=>
  refine wpAny_bind (wpAny_mono h₁ (λ_ s₁ h₁=>?_) λ_ _ h'=>h')
  refine wpAny_bind (wpAny_mono h₁ (λ_ s₂ h₂=>wpAny_bind (wpAny_mono h₂ (λok s₃ h₃=>?_) λ_ _ h'=>h')) λ_ _ h'=>h')
  cases ok with
  |false=>exact wpAny_pure ⟨rfl,h₃⟩
  |true=>
   exact wpAny_bind (wpAny_bind (wpAny_mono h₃ (λx s₄ h₄=>wpAny_bind (wpAny_mono h₄ (λ_ s₅ h₅=>wpAny_pure (wpAny_pure ⟨rfl,h₅⟩)) λ_ _ h'=>h')) λ_ _ h'=>h'))
theorem zLB {X:Cx} {E:VSt} (hx:X.xe=λ_ _=>False) (ht:STs X ifs p) (I:Inv X pins σ H s) (sm:zu G H) (er:Er X.K G H ρ σ) (hp:p ρ=some b) {Q:Bool->Shared->Prop} (hQ:∀ G' H' s',Inv X pins σ H' s'->zg G H G' H'->Q b s') :
  wpAny (model X.prog X.w) X.A (forIn ifs true λc r=>if r=true then do let ok <- isTrue c X.env (eval c X.env);pure (ForInStep.yield ok) else pure (ForInStep.yield r)) Q E s:=by
 rcases ht with ⟨rfl,rfl⟩|⟨c,rfl,hb⟩
 ·cases hp
  rw [List.forIn_nil]
  exact wpAny_pure (hQ G H s I (zg.refl sm))
 ·rw [List.forIn_cons]
  simp only [if_true]
  have:=hb pins s σ H (λk H'=>k=b/\∃ G',zg G H G' H') I ⟨G,ρ,b,sm,er,hp,λG' H' t=>⟨rfl,G',t⟩⟩
  rw [hx] at this
  refine wpAny_bind (wpAny_bind (wpAny_mono this (λk s1 h1=>?_) λ_ _ z=>z.elim))
  obtain ⟨H',I',rfl,G',t⟩:=h1
  refine wpAny_pure ?_
  show wpAny _ _ (forIn [] _ _) _ _ _
  rw [List.forIn_nil]
  exact wpAny_pure (hQ G' H' s1 I' t)
end
end RD
namespace RD
open PySem PySem.Spec PyProof.Rows L2 SeqAt
theorem zEm (x:Int):∀ xs,(zH7 x xs).Perm (x::xs)
 | []=>List.Perm.refl _
 |y::ys=>by
  unfold zH7
  split
  ·exact List.Perm.refl _
  ·exact ((zEm x ys).cons y).trans (List.Perm.swap x y ys)
theorem zBA:∀ xs,(zA7 xs).Perm xs
 | []=>List.Perm.refl _
 |x::xs=>(zEm x _).trans ((zBA xs).cons x)
theorem zLC (x:Int):∀ xs,xs.Pairwise (·<=·)->(zH7 x xs).Pairwise (·<=·)
 | [],_=>by simp [zH7]
 |y::ys,h=>by
  unfold zH7
  split
  ·rename_i hxy
   refine List.pairwise_cons.mpr ⟨λz hz=>?_,h⟩
   rcases List.mem_cons.mp hz with rfl|hz
   ·exact hxy
   ·exact Int.le_trans hxy ((List.pairwise_cons.mp h).1 z hz)
  ·rename_i hxy
   refine List.pairwise_cons.mpr ⟨λz hz=>?_,zLC x ys (List.pairwise_cons.mp h).2⟩
   rcases List.mem_cons.mp ((zEm x ys).mem_iff.mp hz) with rfl|hz
   ·omega
   ·exact (List.pairwise_cons.mp h).1 z hz
theorem zGI:∀ xs,(zA7 xs).Pairwise (·<=·)
 | []=>by simp [zA7]
 |x::xs=>zLC x _ (zGI xs)
theorem zC1:∀ (a b:List Int),a.Perm b->a.Pairwise (·<=·)->b.Pairwise (·<=·)->a=b:=λa b p h1 h2=>
 p.eq_of_pairwise (λx y _ _ h3 h4=>Int.le_antisymm h3 h4) h1 h2
def leS (a b:Str):Prop:=ltS b a=false
theorem zHD (h1:leS a b) (h2:leS b a):a=b:=by
 unfold leS ltS at h1 h2
 have h1':¬ b.cps.toList<a.cps.toList:=by simpa using h1
 have h2':¬ a.cps.toList<b.cps.toList:=by simpa using h2
 have h3:a.cps.toList=b.cps.toList:=List.le_antisymm (List.not_lt.mp h1') (List.not_lt.mp h2')
 cases a;cases b
 simp only [Str.mk.injEq]
 exact Array.toList_inj.mp h3
theorem zHE (h1:leS a b) (h2:leS b c):leS a c:=by
 unfold leS ltS at *
 have h1':¬ b.cps.toList<a.cps.toList:=by simpa using h1
 have h2':¬ c.cps.toList<b.cps.toList:=by simpa using h2
 have:=List.le_trans (List.not_lt.mp h1') (List.not_lt.mp h2')
 simpa using List.not_lt.mpr this
theorem zLD (h:ltS a b=true):leS a b:=by
 unfold leS ltS at *
 have h':a.cps.toList<b.cps.toList:=by simpa using h
 simpa using List.not_lt.mpr (List.le_of_lt h')
theorem zEn (x:Str):∀ xs,(zH8 x xs).Perm (x::xs)
 | []=>List.Perm.refl _
 |y::ys=>by
  unfold zH8
  split
  ·exact ((zEn x ys).cons y).trans (List.Perm.swap x y ys)
  ·exact List.Perm.refl _
theorem qk:∀ xs,(zA8 xs).Perm xs
 | []=>List.Perm.refl _
 |x::xs=>(zEn x _).trans ((qk xs).cons x)
theorem zLE (x:Str):∀ xs,xs.Pairwise leS->(zH8 x xs).Pairwise leS
 | [],_=>by simp [zH8]
 |y::ys,h=>by
  unfold zH8
  split
  ·rename_i hxy
   refine List.pairwise_cons.mpr ⟨λz hz=>?_,zLE x ys (List.pairwise_cons.mp h).2⟩
   rcases List.mem_cons.mp ((zEn x ys).mem_iff.mp hz) with rfl|hz
   ·exact zLD hxy
   ·exact (List.pairwise_cons.mp h).1 z hz
  ·rename_i hxy
   have hxy':leS x y:=by unfold leS;simpa using hxy
   refine List.pairwise_cons.mpr ⟨λz hz=>?_,h⟩
   rcases List.mem_cons.mp hz with rfl|hz
   ·exact hxy'
   ·exact zHE hxy' ((List.pairwise_cons.mp h).1 z hz)
theorem zEH:∀ xs,(zA8 xs).Pairwise leS
 | []=>by simp [zA8]
 |x::xs=>zLE x _ (zEH xs)
theorem zFm:∀ {l:List Str},risingS p l=true->(p::l).Pairwise leS
 | [],_=>by simp
 |x::r,h=>by
  have h':(!ltCps x.cps.toList p.cps.toList && risingS x r)=true:=h
  rw [Bool.and_eq_true] at h'
  have h2:=zFm h'.2
  have h1:leS p x:=by
   unfold leS ltS
   have:=h'.1
   rw [ltCps_eq] at this
   simpa using this
  refine List.pairwise_cons.mpr ⟨λz hz=>?_,h2⟩
  rcases List.mem_cons.mp hz with rfl|hz
  ·exact h1
  ·exact zHE h1 ((List.pairwise_cons.mp h2).1 z hz)
theorem zDY {l:List Str} (h:sortedS l=true):l.Pairwise leS:=by
 cases l with
 |nil=>simp
 |cons p l=>exact zFm h
theorem zBP (a b:List Str) (p:a.Perm b) (h1:a.Pairwise leS) (h2:b.Pairwise leS):a=b:=
 p.eq_of_pairwise (λx y _ _ h3 h4=>zHD h3 h4) h1 h2
theorem zEo:∀ {xs:List D} {is:List Int},zJt xs=some is->xs=is.map .int
 | [],is,h=>by cases h;rfl
 |d::r,is,h=>by
  cases d with
  |int i=>
   obtain ⟨js,e,rfl⟩:=Option.map_eq_some_iff.mp h
   rw [List.map_cons,<- zEo e]
  |_=>cases h
theorem zBw:∀ {xs:List D} {is:List Str},zD9 xs=some is->xs=is.map .str
 | [],is,h=>by cases h;rfl
 |d::r,is,h=>by
  cases d with
  |str i=>
   obtain ⟨js,e,rfl⟩:=Option.map_eq_some_iff.mp h
   rw [List.map_cons,<- zBw e]
  |_=>cases h
section
variable {K:Fg} {G:Hp}
theorem zHF:∀ {is:List Int} {vs:List V},Reps K G (is.map .int) vs->vs=is.map V.int
 | [],vs,h=>yf.mp h
 |i::is,vs,h=>by
  obtain ⟨v,r,rfl,h1,h2⟩:=zm.mp h
  rw [yB.mp h1,zHF h2];rfl
theorem zC2:∀ {is:List Str} {vs:List V},Reps K G (is.map .str) vs->vs=is.map V.str
 | [],vs,h=>yf.mp h
 |i::is,vs,h=>by
  obtain ⟨v,r,rfl,h1,h2⟩:=zm.mp h
  rw [zAU.mp h1,zC2 h2];rfl
theorem Reps.strs:∀ (ns:List Str),Reps K G (ns.map D.str) (ns.map V.str)
 | []=>Reps.nil
 |n::ns=>Reps.cons (zAU.mpr rfl) (Reps.strs ns)
end
theorem zBB:∀ {ss:List Str} {us:List Value},yI (ss.map V.str) us->StrsAre us ss
 | [],us,r=>by cases r;exact .nil
 |s::ss,us,r=>by
  cases r with
  |cons r1 r2=>obtain ⟨t,rfl⟩:=r1;exact .cons s t (zBB r2)
theorem zCD:∀ {ss:List Str} {us:List Value},StrsAre us ss->yI (ss.map V.str) us
 |_,_,.nil=>.nil
 |_,_,.cons y t h=>.cons ⟨t,rfl⟩ (zCD h)
theorem zDZ:∀ {ns:List Int} {us:List Value},IntsAre us ns->yI (ns.map V.int) us
 |_,_,.nil=>.nil
 |_,_,.cons y t h=>.cons ⟨t,rfl⟩ (zDZ h)
section
variable {X:Cx} {a b:Expr} {f g:ROd} {fl:ROl} {pos:Pos}
def zAq:D->Option (List D)
 |.lst xs=>zEk (.lst xs)
 |_=>none
theorem zCE:zAT X (.builtin "sorted") (cF X.K zAq):=by
 intro pins s σ H xs us Q I r h
 obtain ⟨G,d1,ys,x,rfl,sm,r1,e,k⟩:=h
 obtain ⟨u,rfl,ru⟩:=zCs r
 cases d1 with
 |lst zs=>
  simp only [zAq,zEk,zKL,Option.bind_some] at e
  obtain ⟨a,vs,rfl,q,w⟩:=r1.list sm
  cases ru
  obtain ⟨its,vv,p,hz⟩:=I.list q
  split at e
  ·rename_i hl
   have l1:=w.length
   have l2:=vv.length
   have fin:∀ {out:Array Value} {vs':List V} {ys':List D},yI vs' out.toList->Reps X.K G ys' vs'->vs'.length<=sizeLine->ys=ys'->EP X pins σ Q (.ref (s.heap.objs.size+1)) { s with heap:=sortedAll s.heap its out }:=λ{out vs' ys'} h1 h2 h3 h4=>by
    subst h4
    have hn:H (s.heap.objs.size+1)=none:=I.hok.fresh (Nat.le_succ _)
    obtain ⟨e',he⟩:=sortedAll_at s.heap its out
    refine ⟨.ref (s.heap.objs.size+1),upd H (s.heap.objs.size+1) (.lst vs'),I.laid (t':=s.toks) (λ_ _=>sortedAll_old) (Nat.le_succ _) ⟨h3,out.toList,e',h1,?_⟩,rfl,k _ vs' G _ (zg.newH sm hn) hn (sm.free hn) zR h2⟩
    rw [he]
   split at e
   ·rename_i is hi
    cases e
    have:=zEo hi
    subst this
    have hv:=zHF w
    subst hv
    refine sorted_ints p.isList (zFf vv) (by omega) λout ns' a1 a2 a3=>?_
    have e5:=zC1 _ _ (a2.trans (zBA is).symm) a3 (zGI is)
    subst e5
    refine fin (zDZ a1) (Reps.ints _) ?_ rfl
    have:=(zBA is).length_eq
    rw [List.length_map] at l1 ⊢
    simp only [List.length_map] at hl
    exact zAp (by omega)
   ·rename_i hi
    obtain ⟨ss,e2,rfl⟩:=Option.map_eq_some_iff.mp e
    have:=zBw e2
    subst this
    have hv:=zC2 w
    subst hv
    refine sorted_strs p.isList (zBB vv) (by omega) λout ns' a1 a2 a3=>?_
    have e5:=zBP _ _ (a2.trans (qk ss).symm) (zDY a3) (zEH ss)
    subst e5
    refine fin (zCD a1) (Reps.strs _) ?_ rfl
    have:=(qk ss).length_eq
    rw [List.length_map] at l1 ⊢
    simp only [List.length_map] at hl
    exact zAp (by omega)
  ·cases e
 |_=>cases e
def zJv (sep:Str):D->Option D
 |.lst xs=>(zD9 xs).bind λss=>if (ss.map (·.length)).sum+ss.length*sep.length<=1000000 then some (.str (Txt.join sep ss)) else none
 |_=>none
theorem zQF (ha:SR X a f) (hbase:bsA X (.Constant (.str sep) j p1) "join":=by rfl) (hfew:zP0 X cpos [a]:=by rfl) (hline:smL apos cpos:=by rfl) (hs:stE X a []:=by rfl) (hplain:zDv X cpos []:=by rfl) :
  SE X (.Call (.Attribute (.Constant (.str sep) j p1) "join" apos) [a] [] cpos) (b1 f (zJv sep)):=by
 have hm:MtR X "str.join" (λx xs H Q=>x = .str sep/\cR X.K (zJv sep) xs H Q):=by
  intro pins s σ H x xs v us Q I rx r ⟨ex,G,d1,d,y,ey,sm,r1,e,k⟩
  subst ex ey
  obtain ⟨t,rfl⟩:=rx
  obtain ⟨u,rfl,ru⟩:=zCs r
  cases d1 with
  |lst zs=>
   obtain ⟨ss,e1,e⟩:=Option.bind_eq_some_iff.mp e
   split at e
   ·rename_i hl
    cases e
    obtain ⟨a,vs,rfl,q,w⟩:=r1.list sm
    cases ru
    obtain ⟨its,vv,p,hz⟩:=I.list q
    have:=zBw e1
    subst this
    have hv:=zC2 w
    subst hv
    exact join_list p.isList (zBB vv) (by omega) λt' k'=>⟨.str _,H,I.tok _,⟨_,rfl⟩,k _ G H (zg.refl sm) (zAU.mpr rfl)⟩
   ·cases e
  |_=>cases e
 refine zBo (zH0 PySem.F.plainAttrs_str PySem.F.slot_str_join PySem.F.type_str_join hm zOi (zt ha yp hs) hbase hfew hline hs hplain) λσ H Q h=>?_
 refine ⟨rfl,?_⟩
 obtain ⟨G,ρ,d,s,er,ef,k⟩:=h
 obtain ⟨d1,e1,ef⟩:=Option.bind_eq_some_iff.mp ef
 exact ⟨G,ρ,d1,s,er,e1,λv1 G1 H1 t1 r1=>⟨rfl,G1,d1,d,v1,rfl,t1.s,r1,ef,λv G' H' t r=>k v G' H' (t1.trans t) r⟩⟩
noncomputable def zFn (i:Nat) (f:ROd):ROo:=λρ=>(gL ρ i).bind λxs=>if xs.length<16000000 then (f ρ).map λd=>.nx (ρ.set i (.l (xs ++ [d]))) else none
variable {o:Expr} {i:Nat} {apos cpos:Pos}
theorem yG (i:Nat) (ho:PE X o (zDq i)) (ha:SE X a f)
  (hbase:bsA X o "append":=by rfl)
  (hfew:zP0 X cpos [a]:=by rfl)
  (hline:smL apos cpos:=by rfl) (hs:stE X a []:=by rfl) (hplain:zDv X cpos []:=by rfl)
  (hsw:zGB X (.Call (.Attribute o "append" apos) [a] [] cpos) none pos:=by rfl) :
  SS X (.Expr (.Call (.Attribute o "append" apos) [a] [] cpos) pos) (zFn i f):=
 qN (zEX (zH0 PySem.F.plainAttrs_list PySem.F.slot_list_append PySem.F.type_list_append zCu ho (zt ha yp hs) hbase hfew hline hs hplain) hsw) λE σ H=>by
  rintro ⟨G0,H0,G,ρ,o,st,ef,k⟩
  obtain ⟨xs,e1,ef⟩:=Option.bind_eq_some_iff.mp ef
  split at ef
  ·rename_i hl
   obtain ⟨d,e2,rfl⟩:=Option.map_eq_some_iff.mp ef
   have e1':=zNO e1
   obtain ⟨a1,vs,q1,q2,q3,q4⟩:=st.er.own i xs e1'
   refine ⟨_,q1,.inl ⟨rfl,vs,SqL.of q3⟩,G,ρ,d,st.bs.gh,st.er,e2,λv G' H' t r=>?_⟩
   have st':=st.step t
   obtain ⟨a2,vs2,w1,w2,w3,w4⟩:=st'.er.own i xs e1'
   rw [q1] at w1;cases w1
   exact ⟨a1,vs2,v,rfl,rfl,w3,Nat.lt_of_lt_of_le (by rw [<- w4.length];exact hl) (by decide),k σ G' _ (st'.mut e1' rfl rfl q1 (λys z=>by cases z;exact ⟨_,rfl,w4.append (Reps.cons r Reps.nil)⟩) λ_ z=>by cases z)⟩
  ·cases ef
def zLF (i:Nat) (fi f:ROd):ROo:=λρ=>(f ρ).bind λd=>(gL ρ i).bind λxs=>(fi ρ).bind λdi=>match di with
 |.int n=>(ixN xs.length n).map λj=>.nx (ρ.set i (.l (xs.set j d)))
 |_=>none
theorem zNT {fi:ROd} (i:Nat) (ho:PE X o (zDq i)) (hi:SE X ie fi) (ha:SE X a f) (hg:∀ v,assign (.Subscript o ie tpos) X.env v=(do
   let ov <- holding [v] (eval o X.env)
   let iv <- holding [v,ov] (eval ie X.env)
   standAt tpos
   holding [v,ov,iv] (setItem ov iv v)
   release [v,ov,iv] []):=by intro _;rfl) (hs:swapsWithSole [.Subscript o ie tpos] a pos.line X.env=pure false:=by rfl) (hw:swappedStores [.Subscript o ie tpos] a X.env=pure none:=by rfl) (h1:(assignEach [.Subscript o ie tpos] X.env).map (·.2) = [assign (.Subscript o ie tpos) X.env]:=by rfl):SS X (.Assign [.Subscript o ie tpos] a pos) (zLF i fi f):=
 qN (zOl ha (zR8 ho hi zND hg) hs hw h1) λE σ H=>by
  rintro ⟨G0,H0,G,ρ,o,st,ef,k⟩
  obtain ⟨d,e1,ef⟩:=Option.bind_eq_some_iff.mp ef
  obtain ⟨xs,e2,ef⟩:=Option.bind_eq_some_iff.mp ef
  obtain ⟨di,e3,ef⟩:=Option.bind_eq_some_iff.mp ef
  have e2':=zNO e2
  cases di with
  |int n=>
   obtain ⟨j,e4,rfl⟩:=Option.map_eq_some_iff.mp ef
   refine ⟨G,ρ,d,st.bs.gh,st.er,e1,λv G1 H1 t1 r1=>?_⟩
   obtain ⟨a1,vs,q1,q2,q3,q4⟩:=(st.step t1).er.own i xs e2'
   refine ⟨_,q1,G1,ρ,_,t1.s,st.er.step t1,e3,λv2 G2 H2 t2 r2=>?_⟩
   have st':=(st.step t1).step t2
   obtain ⟨a2,vs2,w1,w2,w3,w4⟩:=st'.er.own i xs e2'
   rw [q1] at w1;cases w1
   exact ⟨a1,vs2,n,j,rfl,yB.mp r2,w3,by rw [<- w4.length];exact e4,k σ G2 _ (st'.mut e2' rfl rfl q1 (λys z=>by cases z;exact ⟨_,rfl,w4.set j (Rep.mono t2.g _ _ r1)⟩) λ_ z=>by cases z)⟩
  |_=>cases ef
end
def Ite (K:Fg) (a:Addr):It:=
 ⟨λi H=>∃ xs x,SqL K H a xs/\xs[i]?=some x,λi H x H'=>∃ p y,H p=none/\x = .ref p/\H'=upd H p (.tup [.int i,y])/\∀ xs,SqL K H a xs->xs[i]?=some y,λi H=>∃ xs,SqL K H a xs/\xs.length<=i⟩
def zDa:Nat->List D->List D
 |_,[]=>[]
 |n,x::xs=>D.tup [.int (n:Int),x]::zDa (n+1) xs
theorem zEp:∀ (n:Nat) (xs:List D),(zDa n xs).length=xs.length
 |_,[]=>rfl
 |n,x::xs=>by simp [zDa,zEp (n+1) xs]
theorem zHG:∀ (n:Nat) (xs:List D) (i:Nat) (d:D),(zDa n xs)[i]?=some d->∃ x,xs[i]?=some x/\d=D.tup [.int ((n+i:Nat):Int),x]
 |_,[],_,_,h=>by simp [zDa] at h
 |n,x::xs,0,d,h=>by simp [zDa] at h;exact ⟨x,rfl,by simp [h.symm]⟩
 |n,x::xs,i+1,d,h=>by
  obtain ⟨y,e1,e2⟩:=zHG (n+1) xs i d (by simpa [zDa] using h)
  exact ⟨y,by simpa using e1,by rw [e2];congr 3;omega⟩
section
variable {P:Program} {w:World} {K:Fg}
theorem zLG (a e it:Addr) (hei:e≠it):zNA P w K (.Tuple es k tpos) (Ite K a) [e,it] e (λi h=>(∃ old,IsEnum h e it i old)/\h.IsListIter it a i) where
 mem:=by simp
 obj:=λi h st b hb=>by
  obtain ⟨⟨old,he⟩,o,ho,hc,hd⟩:=st
  rcases List.mem_cons.mp hb with rfl|hb
  ·exact ⟨_,he,λv z=>by cases z⟩
  ·have e1:b=it:=by simpa using hb
   subst e1
   exact ⟨o,ho,λv z=>by rw [hd] at z;cases z⟩
 keep:=λi h h' st hk=>by
  obtain ⟨⟨old,he⟩,o,ho,hc,hd⟩:=st
  exact ⟨⟨old,hk e (by simp) _ he⟩,o,hk it (by simp) o ho,hc,hd⟩
 item:=by
  intro X e1 e2 e3 hcalm i pins s σ H E I hf st go
  subst e1 e2 e3
  obtain ⟨⟨old,he⟩,hit⟩:=st
  obtain ⟨xs,x,hq,hx⟩:=go
  obtain ⟨its,vv,p,hz⟩:=I.list hq
  obtain ⟨u,hu,ru⟩:=vv.get hx
  have fe:=hf e (by simp)
  have fi:=hf it (by simp)
  have hne_e:∀ b o,H b=some o->b≠e:=λb o q z=>by rw [z,fe.1] at q;cases q
  have hne_i:∀ b o,H b=some o->b≠it:=λb o q z=>by rw [z,fi.1] at q;cases q
  refine wpAny_pyNext_enum_item he hit p.isList (by simpa using hu) hei λh' ho hit' hT hsz hk=>⟨_,rfl,?_⟩
  refine wpAny_letOwnedTupleGo_enum ho λh'' he'' hs''=>?_
  have hn:H s.heap.objs.size=none:=I.hok.fresh (Nat.le_refl _)
  have hks:∀ b o,b≠e->b≠it->s.heap.get? b=some o->h''.get? b=some o:=λb o h1 h2 q=>(hs''.2 b h1).trans (hk b o h1 h2 q)
  have helt:e<s.heap.objs.size:=Heap.lt_size he
  have hTe:s.heap.objs.size≠e:=Nat.ne_of_gt helt
  have hT'':h''.get? s.heap.objs.size=some { cls:=.type "tuple",data:=.seq #[.int i s.toks,u] }:=(hs''.2 _ hTe).trans hT
  have hne_T:∀ b o,H b=some o->b≠s.heap.objs.size:=λb o q z=>by rw [z,hn] at q;cases q
  have hilt:it<s.heap.objs.size:=by obtain ⟨o,q,_⟩:=hit;exact Heap.lt_size q
  have fch:∀ b∈[e,it],(b∈X.ex\/X.s₀.heap.objs.size<=b)/\b≠X.env.locals/\(∀ x c,X.env.cells.lookup x=some c->c≠b)/\∀ p∈X.pn++pins,p.1≠b:=λb hb=>⟨(hf b hb).2.2.2.1,(hf b hb).2.1,(hf b hb).2.2.2.2.1,(hf b hb).2.2.2.2.2⟩
  have off:∀ b,b∉[e,it]->b≠e/\b≠it:=λb hb=>⟨λz=>hb (by simp [z]),λz=>hb (by simp [z])⟩
  have I':Inv X pins σ (upd H s.heap.objs.size (.tup [.int i,x])) { s with heap:=h'',toks:=s.toks+1 }:=by
   refine I.step (g':=s.gens) (d':=s.drawn) (ch:=[e,it]) fch (λb o _ _ hc q _=>hks b o (off b hc).1 (off b hc).2 q) (λb o _ _ hc q _=>⟨o.slots,hks b o (off b hc).1 (off b hc).2 q⟩)
    (λb o _ q n=>by rw [zY (Nat.ne_of_lt (Heap.lt_size q))];exact n) (λb o hc q=>⟨o,hks b o (off b hc).1 (off b hc).2 q⟩)
    (λb ys q=>by rw [zY (hne_T b _ q)];exact q) (λb o' u' q=>by rw [zY (hne_T b _ q)];exact q) (λb ps q=>⟨#[],by rw [zY (hne_T b _ q),q];simp⟩)
    (λm hm=>?_) (λb u' q=>?_) I.bare
   ·obtain ⟨o,es',ep,ho',r⟩:=hm
    exact ⟨o,es',ep,hks _ o (Ne.symm fe.2.1) (Ne.symm fi.2.1) ho',r⟩
   ·by_cases hb:b=s.heap.objs.size
    ·subst hb
     rw [zR] at q;cases q
     exact ⟨by show 2<=sizeLine;decide,[.int i s.toks,u],.cons ⟨_,rfl⟩ (.cons ru .nil),⟨_,hT'',rfl,_,rfl,rfl⟩⟩
    ·rw [zY hb] at q
     refine (I.hok b u' q).stay (λc v hc r=>?_) (λc r=>by rw [zY (hne_T c _ r)];exact r) λc ys r=>by rw [zY (hne_T c _ r)];exact r
     rcases hc with z|z
     ·subst z;exact hks c v (hne_e c _ q) (hne_i c _ q) r
     ·exact hks c v (hne_e c _ z) (hne_i c _ z) r
  refine ⟨.ref s.heap.objs.size,_,I',rfl,⟨s.heap.objs.size,x,hn,rfl,rfl,λys hy=>?_⟩,⟨⟨_,by simpa using he''⟩,?_⟩,λb hb=>?_⟩
  ·rw [<- I.list_inj hq hy];exact hx
  ·obtain ⟨o,q1,q2⟩:=hit'
   exact ⟨o,(hs''.2 it (Ne.symm hei)).trans q1,q2⟩
  ·have:b≠s.heap.objs.size:=by
    rcases List.mem_cons.mp hb with z|z
    ·rw [z];exact Nat.ne_of_lt helt
    ·have z':b=it:=by simpa using z
     rw [z'];exact Nat.ne_of_lt hilt
   rw [zY this];exact (hf b hb).1
 done:=by
  intro X e1 e2 e3 hcalm i pins s σ H E I hf st stop
  subst e1 e2 e3
  obtain ⟨⟨old,he⟩,hit⟩:=st
  obtain ⟨xs,hq,hx⟩:=stop
  obtain ⟨its,vv,p,hz⟩:=I.list hq
  have fi:=hf it (by simp)
  refine wpAny_pyNext_enum_end (I.ok.hd hcalm) he hit p.isList (by simp;rw [<- vv.length];exact hx) λh' hk=>⟨rfl,?_⟩
  exact I.turned (t':=s.toks) (λb o hb q=>hk b o hb q) fi.1 fi.2.1 fi.2.2.2.1 fi.2.2.2.2.1 fi.2.2.2.2.2
 self:=λA i s Q E st h=>by
  obtain ⟨⟨old,he⟩,_⟩:=st
  exact wpAny_pyIter_enum he h
end
theorem zQG {K:Fg} {G:Hp} {a:Addr} {vs:List V} {ds:List D} (h:SqL K G a vs) (r:Reps K G ds vs):zM5 K G (Ite K a) (zDa 0 ds) where
 go:=λi H s hi=>by
  rw [zEp] at hi
  exact ⟨vs,vs[i]'(by rw [<- r.length];exact hi),s.seq h,by simp [<- r.length,hi]⟩
 stop:=λi H s hi=>by
  rw [zEp] at hi
  exact ⟨vs,s.seq h,by rw [<- r.length];exact hi⟩
 yld:=λi G1 H x H' s1 s hi y=>by
  obtain ⟨p,y,hp,rfl,rfl,hy⟩:=y
  refine ⟨_,zg.new s hp,λd e=>?_⟩
  obtain ⟨d',e1,rfl⟩:=zHG 0 ds i d e
  obtain ⟨v,e2,e3⟩:=r.get e1
  have:=hy vs ((s1.trans s).seq h)
  rw [e2] at this;cases this
  refine zBN.mpr ⟨p,_,rfl,zR,Reps.cons (yB.mpr (by simp)) (Reps.cons ?_ Reps.nil)⟩
  exact Rep.mono (yq (s.free hp)) _ _ (Rep.mono s1 _ _ e3)
section
variable {X:Cx} {a:Expr} {f:ROd} {es:List Expr} {k:Nat} {tpos p pos:Pos}
def iEn (f:ROd):ROl:=λρ=>(f ρ).bind λd=>match d with
 |.lst xs=>some (zDa 0 xs)
 |_=>none
theorem zH9 (hg:Gl X "enumerate") (hm:X.mg "enumerate" = none) (ha:SE X a f) (hs:stE X a []:=by rfl) (hpl:zDv X pos []:=by rfl) :
  SI X (.Tuple es k tpos) (.Call (.Name "enumerate" p) [a] [] pos) (iEn f):=by
 intro pins s σ H R I ⟨G,ρ,ds,sm,er,ef,kk⟩
 obtain ⟨d,e1,e2⟩:=Option.bind_eq_some_iff.mp ef
 cases d with
 |lst xs=>
  cases e2
  refine wpAny_Call_Name_kw (zFc I hg hm boot_enumerate ?_)
  refine PyProof.Rows.callWith_type1 (thn (zt ha yp hs pos pins s σ H (λvs H'=>∃ G' v,vs = [v]/\zg G H G' H'/\Rep X.K G' (.lst xs) v) I ⟨G,ρ,_,sm,er,e1,λv G' H' t r=>⟨G',v,rfl,t,r⟩⟩) λus s1 ⟨vs,H1,I1,rv,G1,v,ev,t1,r1⟩=>?_) hs hpl
  subst ev
  obtain ⟨u,rfl,ru⟩:=zCs rv
  obtain ⟨l,vs,rfl,q,w⟩:=zAy.mp r1
  cases ru
  obtain ⟨its,vv,pl,hz⟩:=I1.list (t1.s.seq q)
  refine call_enumerate_list pl.isList λh' he hit hsz hk=>?_
  refine wpAny_pyIter_enum he ?_
  have hlt:=λb o (e:s1.heap.get? b=some o)=>hk b o e
  have I2:Inv X pins σ H1 { s1 with heap:=h' }:=I1.kept (t':=s1.toks) hk
  have n1:H1 s1.heap.objs.size=none:=I1.hok.fresh (Nat.le_refl _)
  have n2:H1 (s1.heap.objs.size+1)=none:=I1.hok.fresh (Nat.le_succ _)
  refine ⟨s1.heap.objs.size+1,[s1.heap.objs.size+1,s1.heap.objs.size],_,_,H1,rfl,I2,zLG l (s1.heap.objs.size+1) s1.heap.objs.size (Nat.succ_ne_self _),⟨⟨_,he⟩,hit⟩,λb hb=>?_,kk _ G1 H1 t1 (zQG q w)⟩
  rcases List.mem_cons.mp hb with z|z
  ·rw [z];exact I1.fpOk (Nat.le_succ _) n2
  ·have z':b=s1.heap.objs.size:=by simpa using z
   rw [z'];exact I1.fpOk (Nat.le_refl _) n1
 |_=>cases e2
end
end RD
namespace RD
open PySem PySem.Spec PyProof.Rows L2
theorem qm:bootBuiltins "tuple" = some (.type "tuple"):=by decide +kernel
theorem zQH:bootBuiltins "int" = some (.type "int"):=by decide +kernel
theorem zLH:bootBuiltins "list" = some (.type "list"):=by decide +kernel
theorem zBQ:bootBuiltins "sorted" = some (.builtin "sorted"):=by decide +kernel
theorem b_all:bootBuiltins "all" = some (.builtin "all"):=by decide +kernel
theorem b_any:bootBuiltins "any" = some (.builtin "any"):=by decide +kernel
theorem zSd:bootBuiltins "bool" = some (.type "bool"):=by decide +kernel
theorem zAr:bootBuiltins "isinstance" = some (.builtin "isinstance"):=by decide +kernel
structure Bl (mg:MGt):Prop where
 len:mg "len" = none
 range:mg "range" = none
 enumerate:mg "enumerate" = none
 sorted:mg "sorted" = none
 tuple:mg "tuple" = none
 list:mg "list" = none
 int:mg "int" = none
 dict:mg "dict" = none
 isinstance:mg "isinstance" = none
 all:mg "all" = none
 any:mg "any" = none
 str:mg "str" = none
 bool:mg "bool" = none
theorem gl {X:Cx} (h:X.env.kindOf x=some .globalImplicit):Gl X x:=h
theorem zHp {A:Around} (hr:zBn k A):A.units+30<cLine:=by have:=hr.un;omega
structure zp (P:Program) (w:World) (K:Fg) (mg:MGt) (base:Heap) (k:Nat) (x:Str) (n:Nat) (F:List D->Option D):Prop where
 ex:∃ f fd ps,zF8 P w K mg base CX0 k f fd ps (spD K F n)/\mg x=some (.ref f)/\PySem.W.keepIn K (.ref f)=true/\L2.zD8 K fd ps []
section
variable {X:Cx} {e:Expr} {es:List Expr} {fl:ROl} {pos:Pos}
theorem zJ {F:List D->Option D} (h:zp X.prog X.w X.K X.mg X.base k x n F) (hr:zBn k X.A) (hg:X.env.kindOf x=some .globalImplicit) (hn:(e::es).length=n) (ha:SA X (e::es) fl) (hdb:nDb x:=by decide) (he:stE X e es:=by rfl) (hpl:zDv X pos es:=by rfl):SE X (.Call (.Name x p) (e::es) [] pos) (λρ=>(fl ρ).bind F):=by
 obtain ⟨f,fd,ps,FO,hm,hk,hb⟩:=h.ex
 exact zP8 FO hr hg hm hk hb hn ha hdb he hpl
end
theorem yt {P:Program} {w:World} {K:Fg} {mg:MGt} {base:Heap} {x qual:Str} {st:Stmt} {fa:Addr} {fd:FuncData} {N ps:List Str} {k:Nat} {F:ROo} {f:List D->Option D}
  (FF:Fun K x qual st fa fd) (hm:mg x=some (.ref fa)) (hb:L2.zD8 K fd ps []) (S:zZ N ps (zI st))
  (hbody:∀ (cdv:Value) (A:Around) (outer:List Env) (s:Shared) (H:Hp),zBn k (A.deeper (envOfC qual (zI st) s.heap.objs.size fa cdv))->SSs (zHy CX0 P w K mg base N qual (zI st) fa cdv A outer s H E0).nox (ye st) F)
  (hf:∀ ds d,ds.length=ps.length->f ds=some d->zCg N F ds=some d):zp P w K mg base (k+1) x ps.length f:=
 ⟨fa,fd,ps,zSY FF S hbody hf,hm,FF.kp,hb⟩
theorem yu (h:decide (zHB N nm).Nodup=true):(zHB N nm).Nodup:=of_decide_eq_true h
end RD
namespace PySem
open PySem.Spec PyProof.Rows
end PySem
namespace PySem
open PySem.Spec PyProof.Rows
namespace F
end F
section
variable {prog:Program} {w:World} {K:Type} [DecidableEq K] {knd:KeyKind prog w K} {A:Around} {R:Result->Shared->Prop}
end
end PySem
namespace RD
open PySem PySem.Spec PyProof.Rows L2
def zGs:D->Option Key
 |.int i=>some (.inl i)
 |.str x=>some (.inr x)
 |_=>none
def zO4:List D->Option (List (Key×D))
 | []=>some []
 |.tup [k,v]::r=>(zGs k).bind λk'=>(zO4 r).map ((k',v) :: ·)
 |_=>none
def zO5 (kvs:List (Key×D)) (k:Key) (v:D):List (Key×D):=if (kvs.any λkv=>decide (kv.1=k))=true then kvs.map (λkv=>if kv.1=k then (kv.1,v) else kv) else kvs ++ [(k,v)]
def zFT (kvs:List (Key×D)) (k:Key):Option D:=(kvs.find? λkv=>decide (kv.1=k)).map (·.2)
def dictD:D->Option (List (Key×D))
 |.tup xs=>if xs.length<=1000 then (zO4 xs).map λps=>ps.foldl (λacc p=>zO5 acc p.1 p.2) [] else none
 |_=>none
section
variable {K:Fg} {G:Hp}
theorem zGJ:zCC K G [] []:=⟨rfl,Reps.nil⟩
theorem zC3 (r:Rep K G d v) (h:zCC K G kvs ws):zCC K G ((k,d)::kvs) ((k,v)::ws):=⟨by simp [h.1],Reps.cons r h.2⟩
theorem zEI {p:Key×D} (h:zCC K G (p::kvs) ws):∃ v r,ws=(p.1,v)::r/\Rep K G p.2 v/\zCC K G kvs r:=by
 obtain ⟨h1,h2⟩:=h
 cases ws with
 |nil=>simp at h1
 |cons q ws=>
  obtain ⟨k,v⟩:=q
  simp only [List.map_cons,List.cons.injEq] at h1
  obtain ⟨e1,e2⟩:=h1
  obtain ⟨r1,r2⟩:=Reps.inv h2
  exact ⟨v,ws,by simp [e1],r1,e2,r2⟩
theorem zCC.length {kvs:List (Key×D)} {ws:List (Key×V)} (h:zCC K G kvs ws):kvs.length=ws.length:=by
 have:=congrArg List.length h.1
 simpa using this
theorem zCC.any:∀ {kvs:List (Key×D)} {ws:List (Key×V)},zCC K G kvs ws->(kvs.any λkv=>decide (kv.1=k))=ws.any λkv=>decide (kv.1=k)
 |[],ws,h=>by
  have:=h.length
  cases ws with
  |nil=>rfl
  |cons _ _=>simp at this
 |p::kvs,ws,h=>by
  obtain ⟨v,r,rfl,_,h2⟩:=zEI h
  rw [List.any_cons,List.any_cons,zCC.any h2]
theorem zCC.snoc (r:Rep K G d v):∀ {kvs:List (Key×D)} {ws:List (Key×V)},zCC K G kvs ws->zCC K G (kvs ++ [(k,d)]) (ws ++ [(k,v)])
 |[],ws,h=>by
  have:=h.length
  cases ws with
  |nil=>exact zC3 r zGJ
  |cons _ _=>simp at this
 |p::kvs,ws,h=>by
  obtain ⟨v',r',rfl,h1,h2⟩:=zEI h
  exact zC3 (k:=p.1) h1 (zCC.snoc r h2)
theorem zCC.repl (r:Rep K G d v):∀ {kvs:List (Key×D)} {ws:List (Key×V)},zCC K G kvs ws->zCC K G (kvs.map λkv=>if kv.1=k then (kv.1,d) else kv) (ws.map λkv=>if kv.1=k then (kv.1,v) else kv)
 |[],ws,h=>by
  have:=h.length
  cases ws with
  |nil=>exact zGJ
  |cons _ _=>simp at this
 |p::kvs,ws,h=>by
  obtain ⟨v',r',rfl,h1,h2⟩:=zEI h
  rw [List.map_cons,List.map_cons]
  by_cases e:p.1=k
  ·rw [if_pos e,if_pos e];exact zC3 r (zCC.repl r h2)
  ·rw [if_neg e,if_neg e];exact zC3 (k:=p.1) h1 (zCC.repl r h2)
theorem zCC.put (r:Rep K G d v) (h:zCC K G kvs ws):zCC K G (zO5 kvs k d) (zFP ws k v):=by
 unfold zO5 zFP
 rw [h.any]
 split
 ·exact h.repl r
 ·exact h.snoc r
theorem zCC.get:∀ {kvs:List (Key×D)} {ws:List (Key×V)},zCC K G kvs ws->(zFT kvs k=none/\zBH ws k=none)\/∃ d v,zFT kvs k=some d/\zBH ws k=some v/\Rep K G d v
 |[],ws,h=>by
  have:=h.length
  cases ws with
  |nil=>exact .inl ⟨rfl,rfl⟩
  |cons _ _=>simp at this
 |p::kvs,ws,h=>by
  obtain ⟨v',r',rfl,h1,h2⟩:=zEI h
  by_cases e:p.1=k
  ·exact .inr ⟨p.2,v',by simp [zFT,List.find?_cons,e],zEB e,h1⟩
  ·rcases zCC.get (k:=k) h2 with ⟨a,b⟩|⟨d,v,a,b,c⟩
   ·exact .inl ⟨by simpa [zFT,List.find?_cons,e] using a,by rw [zCv e];exact b⟩
   ·exact .inr ⟨d,v,by simpa [zFT,List.find?_cons,e] using a,by rw [zCv e];exact b,c⟩
end
section
variable {X:Cx}
theorem zDb {K:Fg} {G:Hp} {d:D} {k:Key} {v:V} (h:zGs d=some k) (r:Rep K G d v):v=kV k:=by
 cases d with
 |int i=>cases h;exact yB.mp r
 |str x=>cases h;exact zAU.mp r
 |_=>cases h
variable {a e:Expr} {f:ROd} {i:Nat} {x:Str} {pos pos' p1:Pos}
def tFD (K:Fg) (f:Rho->Option (List (Key×D))):TE:=λσ H Q=>∃ G ρ kvs,zu G H/\Er K G H ρ σ/\f ρ=some kvs /\
 ∀ a ws G' H',zg G H G' H'->H a=none->G' a=none->H' a=some (.dK ws)->zCC K G' kvs ws->Q (.ref a) H'
def zNU (i:Nat) (f:Rho->Option (List (Key×D))):ROo:=λρ=>(f ρ).map λd=>.nx (ρ.set i (.m d))
theorem zQI {fm:Rho->Option (List (Key×D))} (i:Nat) (he:PE X e (tFD X.K fm)) (hN:X.N.Nodup) (hi:X.N[i]?=some x) (hx:Loc X.env.scope x) (hs:zGB X e (some (.Name x pos')) pos:=by rfl)
  (hf:fnL X x:=by first|exact .inl rfl|exact .inr rfl|assumption):SS X (.Assign [.Name x pos'] e pos) (zNU i fm):=
 qN (zCM hN hi hx he hs hf) λQ σ H=>by
  rintro ⟨G0,H0,G,ρ,o,st,ef,k⟩
  obtain ⟨d,e1,rfl⟩:=Option.map_eq_some_iff.mp ef
  refine ⟨G,ρ,d,st.bs.gh,st.er,e1,λa vs G' H' t h1 h2 h3 r=>k _ G' H' (st.setOwn t rfl h1 h2 (λ_ z=>by cases z) λxs z=>?_)⟩
  cases z;exact ⟨vs,h3,r⟩
def zO (i:Nat) (f:ROd):ROo:=zNU i λρ=>(f ρ).bind dictD
def zNV (i:Nat):ROo:=zNU i λ_=>some []
theorem zFo (i:Nat) (hN:X.N.Nodup) (hi:X.N[i]?=some x) (hx:Loc X.env.scope x) (hs:zGB X (.Dict [] [] p1) (some (.Name x pos')) pos:=by rfl)
  (hf:fnL X x:=by first|exact .inl rfl|exact .inr rfl|assumption):SS X (.Assign [.Name x pos'] (.Dict [] [] p1) pos) (zNV i):=
 zQI i (zBo zIt λσ H Q=>by rintro ⟨G,ρ,kvs,sm,er,ef,k⟩;cases ef;exact λp hp=>k p [] G _ (zg.newH sm hp) hp (sm.free hp) zR zGJ) hN hi hx hs hf
def gM (ρ:Rho) (i:Nat):Option (List (Key×D)):=match ρ[i]? with
 |some (.m kvs)=>some kvs
 |_=>none
theorem zQJ {ρ:Rho} (h:gM ρ i=some xs):ρ[i]?=some (.m xs):=by
 unfold gM at h
 split at h
 ·cases h;assumption
 ·cases h
def dIn (neg:Bool) (i:Nat) (f:ROd):ROb:=λρ=>(f ρ).bind λd=>(gM ρ i).bind λkvs=>(zGs d).map λk=>if neg then !(zFT kvs k).isSome else (zFT kvs k).isSome
theorem zQK {neg:Bool} {Q:Bool->Hp->Prop} (h:tTs X.K (dIn neg i f) σ H Q) :
  tE X.K f σ H λy H1=>zDq i σ H1 λx H2=>∃ a o,x = .ref a/\zFQ H2 a y o/\Q (if neg then !o.isSome else o.isSome) H2:=by
 obtain ⟨G,ρ,b,s,er,ef,k⟩:=h
 obtain ⟨dk,e2,ef1⟩:=Option.bind_eq_some_iff.mp ef
 obtain ⟨kvs,e1,ef2⟩:=Option.bind_eq_some_iff.mp ef1
 obtain ⟨key,e3,rfl⟩:=Option.map_eq_some_iff.mp ef2
 have e1':=zQJ e1
 refine ⟨G,ρ,dk,s,er,e2,λv G' H' t r=>?_⟩
 obtain ⟨a2,ws2,w1,w2,w3,w4⟩:=(er.step t).dic i kvs e1'
 have ek:=zDb e3 r
 subst ek
 refine ⟨_,w1,a2,_,rfl,zFQ.k (k:=key) w3,?_⟩
 rcases w4.get (k:=key) with ⟨z,z'⟩|⟨d',v',z1,z2,z3⟩
 ·rw [z'] ;have:=k G' H' t;rw [z] at this;exact this
 ·rw [z2];have:=k G' H' t;rw [z1] at this;exact this
theorem zSe (hu:X.A.units+1<cLine) (i:Nat) (ho:PE X o (zDq i)) (ha:SE X a f) (hm:behindInMarks .In o=false:=by rfl):SB X (.Compare a [.In] [o] pos) (dIn false i f):=
 zH3 (zOj (zOq hu ha ho) hm) λσ H Q h=>by
  obtain ⟨G,ρ,dk,s,er,e2,k⟩:=zQK h
  refine ⟨G,ρ,dk,s,er,e2,λv G' H' t r=>?_⟩
  obtain ⟨x',q1,a2,o2,q2,q3,q4⟩:=k v G' H' t r
  exact ⟨x',q1,a2,o2,q2,q3,_,rfl,q4⟩
def zNW (i:Nat) (fk f:ROd):ROo:=λρ=>(f ρ).bind λd=>(gM ρ i).bind λkvs=>(fk ρ).bind λdk=>(zGs dk).bind λk=>if kvs.length<1000000 then some (.nx (ρ.set i (.m (zO5 kvs k d)))) else none
theorem zLI {o ie:Expr} {fk:ROd} {tpos:Pos} (hu:X.A.units+1<cLine) (i:Nat) (ho:PE X o (zDq i)) (hi:SE X ie fk) (ha:SE X a f) (hs:zGB X a (some (.Subscript o ie tpos)) pos:=by rfl) :
  SS X (.Assign [.Subscript o ie tpos] a pos) (zNW i fk f):=
 qN (zKp hu ho hi ha hs) λE σ H=>by
  rintro ⟨G0,H0,G,ρ,o,st,ef,k⟩
  obtain ⟨d,e1,ef1⟩:=Option.bind_eq_some_iff.mp ef
  obtain ⟨kvs,e2,ef2⟩:=Option.bind_eq_some_iff.mp ef1
  obtain ⟨dk,e3,ef3⟩:=Option.bind_eq_some_iff.mp ef2
  obtain ⟨key,e4,ef4⟩:=Option.bind_eq_some_iff.mp ef3
  split at ef4
  ·rename_i hl
   cases ef4
   have e2':=zQJ e2
   refine ⟨G,ρ,d,st.bs.gh,st.er,e1,λv G1 H1 t1 r1=>?_⟩
   obtain ⟨a1,ws,q1,q2,q3,q4⟩:=(st.step t1).er.dic i kvs e2'
   refine ⟨_,q1,G1,ρ,dk,t1.s,st.er.step t1,e3,λv2 G2 H2 t2 r2=>?_⟩
   have st':=(st.step t1).step t2
   obtain ⟨a2,ws2,w1,w2,w3,w4⟩:=st'.er.dic i kvs e2'
   rw [q1] at w1;cases w1
   have ek:=zDb e4 r2
   subst ek
   have hlen:ws2.length<sizeLine:=Nat.lt_of_lt_of_le (by rw [<- w4.length];exact hl) (by decide)
   exact ⟨a1,_,rfl,zM4.k (k:=key) w3 hlen,k σ G2 _ (st'.mut e2' rfl rfl q1 (λys z=>by cases z) λys z=>by cases z;exact ⟨_,rfl,w4.put (Rep.mono t2.g _ _ r1)⟩)⟩
  ·cases ef4
end
def zEq (n:Nat) (p:ROb) (F:ROo):ROo:=λρ=>zAA p F n ρ
section
variable {X:Cx} {e a b:Expr} {es:List Expr} {f g:ROd} {fl:ROl} {p:ROb} {pos:Pos} {o:Expr} {apos cpos pos':Pos} {x:Str}
def zLJ (i j:Nat):ROo:=λρ=>(gL ρ j).bind λxs=>(xs[xs.length-1]?).map λd=>.nx ((ρ.set j (.l xs.dropLast)).set i (.v d))
theorem zO6 (i j:Nat) (ho:PE X o (zDq j)) (hN:X.N.Nodup) (hi:X.N[i]?=some x) (hx:Loc X.env.scope x)
  (hbase:bsA X o "pop":=by rfl) (hline:smL apos cpos:=by rfl)
  (hs:zGB X (.Call (.Attribute o "pop" apos) [] [] cpos) (some (.Name x pos')) pos:=by rfl)
  (hf:fnL X x:=by first|exact .inl rfl|exact .inr rfl|assumption) :
  SS X (.Assign [.Name x pos'] (.Call (.Attribute o "pop" apos) [] [] cpos) pos) (zLJ i j):=
 qN (zCM hN hi hx (zSP PySem.F.plainAttrs_list PySem.F.slot_list_pop PySem.F.type_list_pop zSQ ho hbase hline) hs hf) λE σ H=>by
  rintro ⟨G0,H0,G,ρ,o,st,ef,k⟩
  obtain ⟨xs,e1,ef⟩:=Option.bind_eq_some_iff.mp ef
  obtain ⟨d,e2,rfl⟩:=Option.map_eq_some_iff.mp ef
  have e1':=zNO e1
  obtain ⟨a1,vs,q1,q2,q3,q4⟩:=st.er.own j xs e1'
  obtain ⟨v,e3,r⟩:=q4.get e2
  rw [q4.length] at e3
  refine ⟨_,q1,.inl ⟨rfl,vs,SqL.of q3⟩,a1,vs,v,rfl,rfl,q3,e3,?_⟩
  exact k _ G _ ((st.mut e1' rfl rfl q1 (λys z=>by cases z;exact ⟨_,rfl,q4.dropLast⟩) λ_ z=>by cases z).setV r)
def zQL (i:Nat) (fl:ROl):ROo:=λρ=>(gL ρ i).bind λxs=>(fl ρ).bind λys=>if xs.length+ys.length<=1000000 then some (.nx (ρ.set i (.l (xs++ys)))) else none
theorem zEr (i:Nat) (ho:PE X o (zDq i)) (ha:SF X a fl)
  (hbase:bsA X o "extend":=by rfl)
  (hfew:zP0 X cpos [a]:=by rfl)
  (hline:smL apos cpos:=by rfl) (hs:stE X a []:=by rfl) (hplain:zDv X cpos []:=by rfl)
  (hsw:zGB X (.Call (.Attribute o "extend" apos) [a] [] cpos) none pos:=by rfl) :
  SS X (.Expr (.Call (.Attribute o "extend" apos) [a] [] cpos) pos) (zQL i fl):=
 qN (zEX (zH0 PySem.F.plainAttrs_list PySem.F.slot_list_extend PySem.F.type_list_extend zKj ho (zt ha yp hs) hbase hfew hline hs hplain) hsw) λE σ H=>by
  rintro ⟨G0,H0,G,ρ,o,st,ef,k⟩
  obtain ⟨xs,e1,ef⟩:=Option.bind_eq_some_iff.mp ef
  obtain ⟨ys,e2,ef⟩:=Option.bind_eq_some_iff.mp ef
  split at ef
  ·rename_i hl
   cases ef
   have e1':=zNO e1
   obtain ⟨a1,vs,q1,q2,q3,q4⟩:=st.er.own i xs e1'
   refine ⟨_,q1,.inl ⟨rfl,vs,SqL.of q3⟩,G,ρ,ys,st.bs.gh,st.er,e2,λb us G' H' t h1 h2 h3 r=>?_⟩
   have st':=st.step t
   obtain ⟨a2,vs2,w1,w2,w3,w4⟩:=st'.er.own i xs e1'
   rw [q1] at w1;cases w1
   refine ⟨a1,b,vs2,us,rfl,rfl,w3,h3,?_,k σ G' _ (st'.mut e1' rfl rfl q1 (λzs z=>by cases z;exact ⟨_,rfl,w4.append r⟩) λ_ z=>by cases z)⟩
   rw [<- w4.length,<- r.length]
   exact Nat.le_trans hl (by decide)
  ·cases ef
end
section
variable {prog:Program} {w:World} {A:Around} {E:VSt} {s:Shared}
theorem zCO {vs:List Value} {P:Fin->Shared->Prop} (ho:s.heap.get? a=some (seqObj "list" vs.toArray n)) (hS:StrsAre vs ss) (h64:vs.length<64) (h:∀ (out:Array Value) (ss':List Str),StrsAre out.toList ss'->ss'.Perm ss->sortedS ss'=true->P (.done (.ret .none)) { s with heap:=sortedHeap s.heap a vs out }) :
  wpAny (model prog w) A (Builtin.«list.sort» ⟨[.ref a],[]⟩) P E s:=by
 refine list_sort_treeK strKind_oneLt ho hS.keysOf (λv₁ v₂ rest e=>keyKind_strs (by rw [<- e];exact hS)) h64 λst' hp hs=>?_
 obtain ⟨ss',h1,h2,h3⟩:=sorted_out_str hS hp hs
 exact h _ ss' h1 h2 h3
theorem zIA {kvs:List (Key×Value)} {Q:VSt} (lo:(d == sysModules)=false) (hh:A.handled=none) (hd:s.heap.DictAt (yP prog w) d kvs ep) (h64:kvs.length<64) (h:∀ (h':Heap) (tk:Nat) (vs:List Value),(∀ b o,s.heap.get? b=some o->h'.get? b=some o)->vs.length=kvs.length->(∀ (j:Nat) (v:Value),vs[j]?=some v->∃ k x,kvs[j]?=some (k,x)/\(yP prog w).is k v=true) ->
   wpAny (model prog w) A.in1.in1 (Builtin.«list.sort» ⟨[.ref h'.objs.size],[]⟩) (λfin s'=>∃ v,fin = .done (.ret v)/\Q (.ref h'.objs.size) s') E { s with heap:=h'.push (seqObj "list" vs.toArray 0),toks:=tk }) :
  wpAny (model prog w) A (call (.builtin "sorted") [.ref d]) Q E s:=by
 refine Calls.call_function_entry kind_sorted plain_sorted entry_sorted (args_sorted1 _) ?_
 unfold Builtin.«sorted»
 refine wpAny_bind (m:=checkCount "sorted" 1 1 _) (wpAny_pure ?_)
 refine wpAny_bind (PySem.W.kdu_collect (A:=A.in1) (PySem.W.kdl_dict lo) hh hd (by rw [sizeLine_eq];omega) λh' tk acc hk hacc=>?_)
 have hl:acc.toList.length=kvs.length:=by rw [Array.length_toList];exact hacc.1
 refine wpAny_bind (wpAny_newList ?_ (by rw [hl,sizeLine_eq];omega))
 have hg:=h h' tk acc.toList hk hl (λj v e=>hacc.2 j v (by rw [<- Array.getElem?_toList];exact e))
 refine wpAny_bind (wpAny_holding (wpAny_call_entry slot_list_sort ⟨_,Heap.get?_push_size _ rfl,rfl⟩ entry_list_sort (wpAny_mono hg (λfin s' x=>?_) λ_ _ e=>e) (args_list_sort _)))
 obtain ⟨v,rfl,q⟩:=x
 exact ⟨_,rfl,wpAny_pure ⟨_,rfl,q⟩⟩
end
def zKM:Key->D
 |.inl i=>.int i
 |.inr x=>.str x
def zNX (kvs:List (Key×D)):List D:=kvs.map λq=>zKM q.1
theorem zI0:∀ {xs:List V} {us:List Value},xs.length=us.length->(∀ (j:Nat) (u:Value),us[j]?=some u->∃ x,xs[j]?=some x/\y8 x u)->yI xs us
 | [],[],_,_=>.nil
 |x::xs,u::us,hl,h=>by
  obtain ⟨y,e,r⟩:=h 0 u rfl
  simp at e;subst e
  exact .cons r (zI0 (by simpa using hl) λj u' e=>by simpa using h (j+1) u' (by simpa using e))
 | [],_::_,hl,_=>by simp at hl
 |_::_,[],hl,_=>by simp at hl
theorem zQM (h:zHt k v=true):y8 (kV k) v:=by
 rcases yO h with ⟨i,t,rfl,rfl⟩|⟨x,t,rfl,rfl⟩
 ·exact ⟨t,rfl⟩
 ·exact ⟨t,rfl⟩
def toV:D->V
 |.int i=>.int i
 |.str x=>.str x
 |_=>.non
theorem zSf (k:Key):kV k=toV (zKM k):=by cases k<;>rfl
theorem zQN {α:Type} (kvs:List (Key×α)):(kvs.map λq=>kV q.1)=(kvs.map λq=>zKM q.1).map toV:=by
 rw [List.map_map]
 exact List.map_congr_left λq _=>zSf q.1
theorem zO7 {α:Type}:∀ {kvs:List (α×V)} {vs:List (α×Value)} {j:Nat} {k:α} {x:Value},KV kvs vs->vs[j]?=some (k,x)->∃ y,kvs[j]?=some (k,y)
 |_,_,j,k,x,.nil,e=>by simp at e
 |(k0,y0)::_,(k1,u0)::_,0,k,x,.cons h t,e=>by
  simp at e
  have h1:k0=k1:=h.1
  exact ⟨y0,by simp [h1,e.1]⟩
 |_::_,_::_,j+1,k,x,.cons h t,e=>by simpa using zO7 (j:=j) t (by simpa using e)
section
variable {X:Cx}
theorem zC4 (hcalm:X.calm=true):zAT X (.builtin "sorted") (λxs H Q=>∃ a kvs ys,xs = [.ref a]/\H a=some (.dK kvs)/\zEk (.lst (kvs.map λq=>zKM q.1))=some ys/\∀ l us,H l=none->(∀ K G,Reps K G ys us)->Q (.ref l) (upd H l (.lst us))):=by
 intro pins s σ H xs us Q I r h
 obtain ⟨a,kvs,ys,rfl,hH,e,k⟩:=h
 obtain ⟨u,rfl,ru⟩:=zCs r
 cases ru
 obtain ⟨hz,lo,vs,kv,dd⟩:=zPu I.hok hH
 obtain ⟨ep,da⟩:=dd.dictAt
 simp only [zEk,zKL,Option.bind_some] at e
 split at e
 ·rename_i hl
  rw [List.length_map] at hl
  have l1:vs.length=kvs.length:=kv.length.symm
  refine zIA (kvs:=vs) lo (I.ok.hd hcalm) da (by omega) λh' tk its keep hlen hits=>?_
  have I1:Inv X pins σ H { s with heap:=h',toks:=tk }:=I.kept (t':=tk) keep
  have hn:H h'.objs.size=none:=I1.hok.fresh (Nat.le_refl _)
  have vv:yI (kvs.map λq=>kV q.1) its:=zI0 (by rw [List.length_map];omega) λj u eu=>by
   obtain ⟨kk,xx,e1,e2⟩:=hits j u eu
   obtain ⟨y,e3⟩:=zO7 kv e1
   refine ⟨kV kk,by rw [List.getElem?_map,e3];rfl,zQM ?_⟩
   exact e2
  rw [zQN] at vv
  have fin:∀ {out:Array Value} {vs':List V},yI vs' out.toList->(∀ K G,Reps K G ys vs')->vs'.length<=sizeLine->EP X pins σ Q (.ref h'.objs.size) { s with heap:=sortedHeap (h'.push (seqObj "list" its.toArray 0)) h'.objs.size its out,toks:=tk }:=λ{out vs'} h1 h2 h3=>by
   obtain ⟨e',he⟩:=sortedHeap_at (h:=h'.push (seqObj "list" its.toArray 0)) (a:=h'.objs.size) (vs:=its) (n:=0) (out:=out) (Heap.get?_push_size _ rfl)
   refine ⟨.ref h'.objs.size,upd H h'.objs.size (.lst vs'),I1.laid (t':=tk) (λb ob eb=>?_) (Nat.le_refl _) ⟨h3,out.toList,e',h1,?_⟩,rfl,k _ _ hn h2⟩
   ·have blt:=Heap.lt_size eb
    rw [sortedHeap_old (Nat.ne_of_lt blt) (Nat.lt_of_lt_of_le blt (by rw [Heap.size_push];exact Nat.le_succ _))]
    exact Heap.get?_push_of_some _ eb
   ·rw [he]
  split at e
  ·rename_i is hi
   cases e
   have e1:=zEo hi
   rw [e1,List.map_map] at vv
   refine wpAny_mono (list_sort_tree (P:=λfin s'=>∃ v,fin = .done (.ret v)/\EP X pins σ Q (.ref h'.objs.size) s') (n:=0) (Heap.get?_push_size _ rfl) (zFf (ns:=is) vv) (by omega) λout ns' a1 a2 a3=>⟨_,rfl,?_⟩) (λ_ _ x=>x) λ_ _ x=>x
   have e5:=zC1 _ _ (a2.trans (zBA is).symm) a3 (zGI is)
   subst e5
   refine fin (zDZ a1) (λK G=>Reps.ints _) ?_
   have:=(zBA is).length_eq
   have:=congrArg List.length e1
   simp only [List.length_map] at this ⊢
   exact zAp (by omega)
  ·rename_i hi
   obtain ⟨ss,e2,rfl⟩:=Option.map_eq_some_iff.mp e
   have e1:=zBw e2
   rw [e1,List.map_map] at vv
   refine wpAny_mono (zCO (P:=λfin s'=>∃ v,fin = .done (.ret v)/\EP X pins σ Q (.ref h'.objs.size) s') (n:=0) (Heap.get?_push_size _ rfl) (zBB (ss:=ss) vv) (by omega) λout ns' a1 a2 a3=>⟨_,rfl,?_⟩) (λ_ _ x=>x) λ_ _ x=>x
   have e5:=zBP _ _ (a2.trans (qk ss).symm) (zDY a3) (zEH ss)
   subst e5
   refine fin (zCD a1) (λK G=>Reps.strs _) ?_
   have:=(qk ss).length_eq
   have:=congrArg List.length e1
   simp only [List.length_map] at this ⊢
   exact zAp (by omega)
 ·cases e
variable {e:Expr} {x:Str} {p1 pos:Pos}
def zQO (i:Nat):ROl:=λρ=>(gM ρ i).bind λkvs=>zEk (.lst (zNX kvs))
theorem zNY (i:Nat) (hcalm:X.calm=true) (hg:Gl X "sorted") (hm:X.mg "sorted" = none) (ho:PE X e (zDq i))
  (hs:stE X e []:=by rfl) (hpl:zDv X pos []:=by rfl):SF X (.Call (.Name "sorted" p1) [e] [] pos) (zQO i):=
 zBo (zAJ (zC4 hcalm) hg hm zBQ (zt ho yp hs) (by decide) (by decide) hs hpl) λσ H Q=>by
  rintro ⟨G,ρ,ys,s,er,ef,k⟩
  obtain ⟨kvs,e1,e2⟩:=Option.bind_eq_some_iff.mp ef
  obtain ⟨a,ws,q1,q2,q3,q4⟩:=er.dic i kvs (zQJ e1)
  refine ⟨_,q1,a,ws,ys,rfl,q3,?_,λl us hl r=>?_⟩
  ·rw [<- e2]
   have z:(ws.map λq=>zKM q.1)=zNX kvs:=by
    have:=congrArg (List.map zKM) q4.1
    rw [List.map_map,List.map_map] at this
    exact this.symm
   rw [z]
  ·exact k l us G _ (zg.newH s hl) hl (s.free hl) zR (r _ _)
end
def tyD:D->String
 |.non=>"NoneType" | .bl _=>"bool" | .int _=>"int" | .str _=>"str" | .tup _=>"tuple" | .lst _=>"list"
def isiB (T:String) (d:D):Bool:=tyD d == T || (tyD d == "bool" && T == "int")
def isiO (T:String) (d:D):Option D:=some (.bl (isiB T d))
def isiT (T:String):Bool:=T == "tuple" || T == "int" || T == "bool" || T == "str" || T == "list"
theorem zSg {K:Fg} {T:String} (hT:isiT T=true) (d:D):PySem.W.kitOne K (.type (tyD d)) (.type T)=some (isiB T d):=by
 have hT':T = "tuple"\/T = "int"\/T = "bool"\/T = "str"\/T = "list":=by simpa [isiT,or_assoc] using hT
 rcases hT' with rfl|rfl|rfl|rfl|rfl<;>cases d<;>first|rfl|kernel_rfl
section
variable {X:Cx} {a:Expr} {f:ROd} {p1 p2 pos:Pos}
theorem zNZ {T:String} (hT:isiT T=true):zAT X (.builtin "isinstance") (λxs H Q=>∃ G d x,xs = [x,.ty T]/\zu G H/\zBu X.K G H d x/\Q (.bl (isiB T d)) H):=by
 intro pins s σ H xs us Q I r h
 obtain ⟨G,d,x,rfl,sm,rx,q⟩:=h
 obtain ⟨u,u2,rfl,r1,r2⟩:=zSI r
 cases (show u2=Value.type T from r2)
 have e:=zSg (K:=X.K) hT d
 have fin:∀ tk,EP X pins σ Q (.bool (isiB T d)) { s with toks:=tk }:=λtk=>⟨.bl _,H,I.tok tk,rfl,q⟩
 cases d with
 |non=>have:=rx.non;subst this;cases (show u=Value.none from r1);exact PySem.W.kia_one PySem.W.kitx_none I.kIn True.intro e (λz=>nomatch z) fin
 |bl b=>have:=rx.bl;subst this;cases (show u=Value.bool b from r1);exact PySem.W.kia_one PySem.W.kitx_bool I.kIn True.intro e (λz=>nomatch z) fin
 |int i=>have:=rx.int;subst this;obtain ⟨t,q⟩:=(show ∃ t,u=Value.int i t from r1);cases q;exact PySem.W.kia_one PySem.W.kitx_int I.kIn True.intro e (λz=>nomatch z) fin
 |str i=>have:=rx.str;subst this;obtain ⟨t,q⟩:=(show ∃ t,u=Value.str i t from r1);cases q;exact PySem.W.kia_one PySem.W.kitx_str I.kIn True.intro e (λz=>nomatch z) fin
 |tup ys=>
  obtain ⟨b,vs,rfl,sq,_⟩:=rx.tup sm
  cases (show u=Value.ref b from r1)
  obtain ⟨its,_,⟨o,h1,h2,_⟩,_⟩:=I.tuple sq
  exact PySem.W.kia_one PySem.W.kitx_tuple I.kIn ⟨o,h1,h2⟩ e (λz=>nomatch z) fin
 |lst ys=>
  obtain ⟨b,vs,rfl,sq,_⟩:=rx.list sm
  cases (show u=Value.ref b from r1)
  obtain ⟨its,_,⟨o,n,h1,h2,_⟩,_⟩:=I.list sq
  exact PySem.W.kia_one PySem.W.kitx_list I.kIn ⟨o,h1,h2⟩ e (λz=>nomatch z) fin
theorem zSh (hT:isiT T=true) (hg:Gl X "isinstance") (hm:X.mg "isinstance" = none) (hgT:Gl X y) (hmT:X.mg y=none) (hbT:bootBuiltins y=some (.type T)) (ha:SR X a f) (hnT:y ≠ "__name__":=by decide) (hdT:nDb y:=by decide) (hs:stE X a [.Name y p2]:=by rfl) (hs2:stE X (.Name y p2) []:=by rfl) (hpl:zDv X pos [.Name y p2]:=by rfl):SE X (.Call (.Name "isinstance" p1) [a,.Name y p2] [] pos) (b1 f (isiO T)):=
 zBo (zAJ (zNZ hT) hg hm zAr (zt ha (zt (zKU (v:=.ty T) hgT hmT hbT rfl hnT hdT) yp hs2) hs) (by decide) (by decide) hs hpl) λσ H Q=>by
  rintro ⟨G,ρ,d,s,er,ef,k⟩
  obtain ⟨d1,e1,ef⟩:=Option.bind_eq_some_iff.mp ef
  cases ef
  exact ⟨G,ρ,d1,s,er,e1,λv1 G1 H1 t1 r1=>⟨G1,d1,v1,rfl,t1.s,r1,k _ G1 H1 t1 (yT.mpr rfl)⟩⟩
end
def zEs:List D->Option (List Bool)
 | []=>some []
 |.bl b::r=>(zEs r).map (b :: ·)
 |_=>none
def allO:D->Option D
 |.lst xs=>(zEs xs).map λbs=>.bl (bs.all id)
 |_=>none
def anyO:D->Option D
 |.lst xs=>(zEs xs).map λbs=>.bl (bs.any id)
 |_=>none
theorem zFp:∀ {xs:List D} {bs:List Bool},zEs xs=some bs->xs=bs.map .bl
 | [],bs,h=>by cases h;rfl
 |d::r,bs,h=>by
  cases d with
  |bl b=>
   obtain ⟨js,e,rfl⟩:=Option.map_eq_some_iff.mp h
   rw [List.map_cons,<- zFp e]
  |_=>cases h
theorem zFq {K:Fg} {G:Hp}:∀ {bs:List Bool} {vs:List V},Reps K G (bs.map .bl) vs->vs=bs.map V.bl
 | [],vs,h=>yf.mp h
 |b::bs,vs,h=>by
  obtain ⟨v,r,rfl,h1,h2⟩:=zm.mp h
  rw [yT.mp h1,zFq h2];rfl
theorem zFr:∀ {bs:List Bool} {us:List Value},yI (bs.map V.bl) us->us=bs.map Value.bool
 | [],us,r=>by cases r;rfl
 |b::bs,us,r=>by
  cases r with
  |cons r1 r2=>cases (show _=Value.bool b from r1);rw [zFr r2];rfl
theorem zLK (bs:List Bool):(List.range bs.length).all (λi=>bs.getD i false)=bs.all id:=by
 rw [Bool.eq_iff_iff]
 simp only [List.all_eq_true,List.mem_range]
 constructor
 ·intro h b hb
  obtain ⟨i,hi,rfl⟩:=List.mem_iff_getElem.mp hb
  simpa [List.getD,hi] using h i hi
 ·intro h i hi
  have:=h bs[i] (List.getElem_mem hi)
  simpa [List.getD,hi] using this
theorem zLL (bs:List Bool):(List.range bs.length).any (λi=>bs.getD i false)=bs.any id:=by
 rw [Bool.eq_iff_iff]
 simp only [List.any_eq_true,List.mem_range]
 constructor
 ·rintro ⟨i,hi,h⟩
  exact ⟨bs[i],List.getElem_mem hi,by simpa [List.getD,hi] using h⟩
 ·rintro ⟨b,hb,h⟩
  obtain ⟨i,hi,rfl⟩:=List.mem_iff_getElem.mp hb
  exact ⟨i,hi,by simpa [List.getD,hi] using h⟩
section
variable {X:Cx}
theorem zFs {pins:PNt} {xs:List D} {bs:List Bool} {u:Value} {A:Around} {E:VSt} {Q:Bool->Value->Shared->Prop} (hcalm:A.handled=none) (I:Inv X pins σ H s) (sm:zu G H) (r1:zBu X.K G H (.lst xs) v) (ru:y8 v u) (e:zEs xs=some bs) (R:List Bool->Bool) (tr:Nat->Bool) (htr:tr=λi=>bs.getD i false) (h:∀ (I0:Addr) (fp wr:List Addr) (n:Nat) (P:Nat->Value->Prop) (St:Nat->Heap->Prop) (h2:Heap),n=bs.length->Walks X.prog X.w A I0 fp wr n P St->St 0 h2->TruthOf X.prog X.w A P tr->(∀ h' tk,(∀ b o,b∉wr->h2.get? b=some o->h'.get? b=some o)->Inv X pins σ H { s with heap:=h',toks:=tk })->Q true (.ref I0) { s with heap:=h2 }) :
  wpAny (model X.prog X.w) A (pyIter u) (Q true) E s:=by
 have e1:=zFp e
 subst e1
 obtain ⟨a,vs,rfl,q,w⟩:=r1.list sm
 cases ru
 obtain ⟨its,vv,p,hz⟩:=I.list q
 have hv:=zFq w
 subst hv
 have hu:=zFr vv
 subst hu
 have hl:=p.isList
 have hax:a<s.heap.objs.size:=by obtain ⟨_,e,_⟩:=hl;exact Heap.lt_size e
 refine wpAny_pyIter_list hl ?_
 refine h s.heap.objs.size _ _ _ _ _ _ ?_ (Walks.list hcalm s.heap.objs.size a (Nat.ne_of_lt hax) (bs.map Value.bool).toArray) ⟨⟨_,Heap.get?_push_size _ rfl,rfl,rfl⟩,hl.push _⟩ ?_ ?_
 ·simp
 ·intro i v s' Q' E' hP hQ
  have:∃ b,bs[i]?=some b/\v = .bool b:=by
   have hP':(bs.map Value.bool)[i]?=some v:=by simpa only [List.getElem?_toArray] using hP
   rw [List.getElem?_map] at hP'
   obtain ⟨b,h1,h2⟩:=Option.map_eq_some_iff.mp hP'
   exact ⟨b,h1,h2.symm⟩
  obtain ⟨b,hb,rfl⟩:=this
  rw [htr] at hQ
  simp only [List.getD,hb,Option.getD_some] at hQ
  exact wpAny_truthy_bool hQ
 ·intro h' tk hk
  refine I.kept (t':=tk) λb o eb=>hk b o ?_ (Heap.get?_push_of_some _ eb)
  intro hm
  have:=Heap.lt_size eb
  rw [List.mem_singleton.mp hm] at this
  exact Nat.lt_irrefl _ this
theorem zLM (hcalm:X.calm=true):zAT X (.builtin "all") (cR X.K allO):=by
 intro pins s σ H xs us Q I r h
 obtain ⟨G,d1,d,x,rfl,sm,r1,e,k⟩:=h
 obtain ⟨u,rfl,ru⟩:=zCs r
 cases d1 with
 |lst zs=>
  obtain ⟨bs,e1,rfl⟩:=Option.map_eq_some_iff.mp e
  refine call_all_walk ?_
  refine zFs (Q:=λ_=>_) (A:=X.A.in1) (I.ok.hd hcalm) I sm r1 ru e1 (λ_=>true) _ rfl λI0 fp wr n P St h2 hn W st ht hk=>?_
  refine ⟨I0,fp,wr,n,P,St,_,rfl,W,st,ht,λh' tk hh=>?_⟩
  subst hn
  rw [zLK]
  exact ⟨.bl _,H,hk h' tk hh,rfl,k _ G H (zg.refl sm) (yT.mpr rfl)⟩
 |_=>cases e
theorem zLN (hcalm:X.calm=true):zAT X (.builtin "any") (cR X.K anyO):=by
 intro pins s σ H xs us Q I r h
 obtain ⟨G,d1,d,x,rfl,sm,r1,e,k⟩:=h
 obtain ⟨u,rfl,ru⟩:=zCs r
 cases d1 with
 |lst zs=>
  obtain ⟨bs,e1,rfl⟩:=Option.map_eq_some_iff.mp e
  refine call_any_walk ?_
  refine zFs (Q:=λ_=>_) (A:=X.A.in1) (I.ok.hd hcalm) I sm r1 ru e1 (λ_=>true) _ rfl λI0 fp wr n P St h2 hn W st ht hk=>?_
  refine ⟨I0,fp,wr,n,P,St,_,rfl,W,st,ht,λh' tk hh=>?_⟩
  subst hn
  rw [zLL]
  exact ⟨.bl _,H,hk h' tk hh,rfl,k _ G H (zg.refl sm) (yT.mpr rfl)⟩
 |_=>cases e
variable {x:Str} {pos:Pos}
end
section
variable {X:Cx} {tg e:Expr} {f:ROd}
end
section
variable {X:Cx}
end
theorem HOk.on {h h':Heap} (x:L2.HOk P w H h) (k:∀ b u o,H b=some o->h.get? b=some u->h'.get? b=some u):L2.HOk P w H h':=λa o e=>
 (x a o e).stay (λb u hb q=>by
  rcases hb with rfl|hb
  ·exact k _ u _ e q
  ·exact k b u _ hb q) (λ_ q=>q) λ_ _ q=>q
theorem zEt {h:Heap} (x:zAI P w H h a o):∃ u,h.get? a=some u:=by
 cases o with
 |lst xs=>obtain ⟨_,_,_,_,e⟩:=x;exact ⟨_,e⟩
 |tup xs=>obtain ⟨_,_,_,ob,e,_⟩:=x;exact ⟨_,e⟩
 |dK kvs=>obtain ⟨_,_,_,_,ob,_,_,e,_⟩:=x;exact ⟨_,e⟩
 |dT kvs=>obtain ⟨_,_,_,_,ob,_,_,e,_⟩:=x;exact ⟨_,e⟩
 |set S n=>obtain ⟨ob,_,_,_,e,_⟩:=x;exact ⟨_,e⟩
 |ins C dx fs=>obtain ⟨_,_,_,e,_⟩:=x;exact ⟨_,e⟩
 |own y=>exact x
 |xd fs=>obtain ⟨_,⟨_,_,_,e,_⟩,_⟩:=x;exact ⟨_,e⟩
 |rng lo hi=>obtain ⟨_,_,_,e⟩:=x;exact ⟨_,e⟩
 |frz ob u=>exact ⟨_,x.1⟩
 |tbl ps=>exact ⟨_,(show h.get? a=some { cls:=.none,data:=.fields ps } from x)⟩
 |met f y=>exact ⟨_,(show h.get? a=some (PySem.W.methodObj (.ref f) (.ref y)) from x)⟩
 |ext φ=>exact x.2.1
def Fly (l:List Env) (x T:Addr) (cls:Value) (h:Heap):Prop:=∃ a0,Heap.FlyingW (PySem.W.hideAll h (x::T::frs l)) l x cls a0 h
theorem zSi {B h:Heap} (f:Heap.FlyingW B l x cls a0 h):∃ T,Fly l x T cls h/\B.get? T=none/\T≠x/\(∃ o ts,h.get? T=some o/\o.data = .fields ts):=by
 obtain ⟨f1,f2,f3,oe,vs,T,oT,ts,g1,g2,g3,g4,g5,g6,g7,g8,g9⟩:=f
 refine ⟨T,⟨a0,λb o e=>PySem.W.of_hideAll _ e,PySem.W.hideAll_none _ (by simp),?_,oe,vs,T,oT,ts,g1,g2,g3,g4,PySem.W.hideAll_none _ (by simp),g6,g7,g8,g9⟩,g5,g6,oT,ts,g7,g8⟩
 exact PySem.W.funFrames_hide f3 λenv he a ha=>List.mem_cons_of_mem _ (List.mem_cons_of_mem _ (List.mem_filterMap.mpr ⟨env,he,ha⟩))
def CXE (P:Program) (w:World):CXT:=λouter H s E e s'=>∃ x T C H',e = .ref x/\s'.os=s.os/\AllBare s'.gens/\L2.Un (frs outer) [] H H' s.heap s'.heap/\L2.HOk P w H' s'.heap/\Fly outer x T (.ref C) s'.heap /\
 s.heap.get? x=none/\s.heap.get? T=none/\H' x=none/\H' T=none/\E (.ref C) none H'
section
variable {P:Program} {w:World} {K:Fg} {mg:MGt} {base:Heap} {N:List Str} {qual:Str} {scope:Scope} {f:Addr} {cd:Value} {A:Around} {outer:List Env} {s₀:Shared} {H₀:Hp} {E:XK}
abbrev cxE (P:Program) (w:World) (K:Fg) (mg:MGt) (base:Heap) (N:List Str) (qual:Str) (scope:Scope) (f:Addr) (cd:Value) (A:Around) (outer:List Env) (s₀:Shared) (H₀:Hp) (E:XK):Cx:=zHy (CXE P w) P w K mg base N qual scope f cd A outer s₀ H₀ E
theorem zQP {s:Shared} {h':Heap} (I:Inv (cxE P w K mg base N qual scope f cd A outer s₀ H₀ E) pins σ H s) (hb:∀ b∈bad,b∈frs (envOfC qual scope s₀.heap.objs.size f cd::outer)\/(s₀.heap.get? b=none/\H b=none)) (x1:Heap.FlyingW (PySem.W.hideAll s.heap bad) outer x (.ref C) a0 h') (x2:∀ b∈frs outer,∀ o,s.heap.get? b=some o->(∀ vs,o.data≠.fields vs)->∃ sl,h'.get? b=some { o with slots:=sl }) (hx0:s₀.heap.get? x=none) (hHx:H x=none) (hE:E (.ref C) none H) :
  CXE P w outer H₀ s₀ E (.ref x) { s with heap:=h' }:=by
 obtain ⟨T,fl,t1,t2,oT,ts,t3,t4⟩:=zSi x1
 have hL:s₀.heap.get? s₀.heap.objs.size=none:=by
  cases q:s₀.heap.get? s₀.heap.objs.size with
  |none=>rfl
  |some o=>exact absurd (Heap.lt_size q) (Nat.lt_irrefl _)
 -- a thing of the entry's heap that is bad is a caller's frame
 have badf:∀ b o,s₀.heap.get? b=some o->b∈bad->b∈frs outer:=λb o e m=>by
  rcases hb b m with q|⟨q,_⟩
  ·rcases List.mem_filterMap.mp q with ⟨env,he,hf⟩
   rcases List.mem_cons.mp he with rfl|he
   ·have z:s₀.heap.objs.size=b:=Option.some.inj hf
    rw [<- z,hL] at e;cases e
   ·exact List.mem_filterMap.mpr ⟨env,he,hf⟩
  ·rw [q] at e;cases e
 have stay:∀ b o,s.heap.get? b=some o->b∉bad->h'.get? b=some o:=λb o e nb=>x1.1 b o (PySem.W.hideAll_get _ e nb)
 have frd:∀ b,b∈frs outer->∃ o,s.heap.get? b=some o/\∀ vs,o.data≠.fields vs:=λb m=>by
  obtain ⟨_,o,ho,hd⟩:=I.stack.mem (List.mem_filterMap.mpr (by
   obtain ⟨env,he,hf⟩:=List.mem_filterMap.mp m
   exact ⟨env,List.mem_cons_of_mem _ he,hf⟩))
  exact ⟨o,ho,hd⟩
 have trk:∀ b o,H b=some o->b∉bad:=λb o e m=>by
  rcases hb b m with q|⟨_,q⟩
  ·have:=I.stkFree b q
   rw [this] at e;cases e
  ·rw [q] at e;cases e
 have hT0:s₀.heap.get? T=none:=by
  cases q:s₀.heap.get? T with
  |none=>rfl
  |some o=>
   exfalso
   obtain ⟨o',q'⟩:=I.base.there T o q (by show T∉([]:List Addr);simp)
   by_cases m:T∈bad
   ·obtain ⟨_,ob,g1,g2⟩:=x1.2.2.1.mem (badf T o q m)
    rw [t3] at g1;cases g1
    exact g2 _ t4
   ·rw [PySem.W.hideAll_get _ q' m] at t1;cases t1
 have hHT:H T=none:=by
  cases q:H T with
  |none=>rfl
  |some o=>
   exfalso
   obtain ⟨u,hu⟩:=zEt (I.hok T o q)
   rw [PySem.W.hideAll_get _ hu (trk T o q)] at t1;cases t1
 refine ⟨x,T,C,H,rfl,I.os,I.bare,⟨λb o e n nf _=>?_,λb o e n m _=>?_,λb o e n nx=>I.base.free b o e n nx,λb o e _=>?_,I.base.tups,I.base.frzs,I.base.tbls⟩,?_,fl,hx0,hT0,hHx,hHT,hE⟩
 ·exact stay b o (I.base.keep b o e n nf (by show b∉([]:List Addr);simp)) λm=>nf (badf b o e m)
 ·obtain ⟨sl,e1⟩:=I.base.slot b o e n m (by show b∉([]:List Addr);simp)
  obtain ⟨ob,e2,hd⟩:=frd b m
  rw [e1] at e2;cases e2
  obtain ⟨sl',e3⟩:=x2 b m _ e1 hd
  exact ⟨sl',e3⟩
 ·obtain ⟨o',e1⟩:=I.base.there b o e (by show b∉([]:List Addr);simp)
  by_cases m:b∈bad
  ·obtain ⟨ob,e2,hd⟩:=frd b (badf b o e m)
   rw [e1] at e2;cases e2
   obtain ⟨sl',e3⟩:=x2 b (badf b o e m) _ e1 hd
   exact ⟨_,e3⟩
  ·exact ⟨o',stay b o' e1 m⟩
 ·exact HOk.on I.hok λb u o e q=>stay b u q (trk b o e)
theorem zO8 {s:Shared} (I:Inv (cxE P w K mg base N qual scope f cd A outer s₀ H₀ E) pins σ H s) (hb:∀ b∈bad,b∈frs (envOfC qual scope s₀.heap.objs.size f cd::outer)\/(s₀.heap.get? b=none/\H b=none)) (x1:Heap.FlyingW (PySem.W.hideAll s.heap bad) outer x (.ref C) a0 h') (x2:s.heap.UpToSlots h') (hx0:s₀.heap.get? x=none) (hHx:H x=none) (hE:E (.ref C) none H) :
  CXE P w outer H₀ s₀ E (.ref x) { s with heap:=h' }:=
 zQP I hb x1 (λb _=>x2 b) hx0 hHx hE
theorem zLO:zDr (CXE P w) (cxE P w K mg base N qual scope f cd A outer s₀ H₀ E) E:=by
 intro pins σ H s e s' I h
 obtain ⟨x,T,C,H',rfl,os,bare,un,hok,⟨a0,fl⟩,nx,nT,hx,hT,hE⟩:=h
 have J:Inv (cxE P w K mg base N qual scope f cd A outer s₀ H₀ E) pins σ H' s':=I.call' os un hok bare λb m=>absurd m (by simp)
 have old:∀ b,s.heap.get? b=none->s₀.heap.get? b=none:=λb n=>by
  cases q:s₀.heap.get? b with
  |none=>rfl
  |some o=>
   obtain ⟨o',q'⟩:=I.base.there b o q (by show b∉([]:List Addr);simp)
   rw [n] at q';cases q'
 show wpAny (model P w) (A.deeper (envOfC qual scope s₀.heap.objs.size f cd)) (leaving (envOfC qual scope s₀.heap.objs.size f cd) (.ref x)) _ _ s'
 refine wpAny_leaves_onW (J.ok.frames) (L:=s₀.heap.objs.size) rfl fl λh' x1 x2=>?_
 refine zO8 J (λb m=>?_) x1 x2 (old x nx) hx hE
 rcases List.mem_cons.mp m with rfl|m
 ·exact .inr ⟨old _ nx,hx⟩
 rcases List.mem_cons.mp m with rfl|m
 ·exact .inr ⟨old _ nT,hT⟩
 ·exact .inl m
theorem zQQ {s:Shared} (I:Inv (cxE P w K mg base N qual scope f cd A outer s₀ H₀ E) pins σ H s) (m:Heap.MadeExcOf s.heap h' x (.ref C) args) (hE:E (.ref C) none H):(cxE P w K mg base N qual scope f cd A outer s₀ H₀ E).xe (.ref x) { s with heap:=h' }:=by
 show wpAny (model P w) (A.deeper (envOfC qual scope s₀.heap.objs.size f cd)) (leaving (envOfC qual scope s₀.heap.objs.size f cd) (.ref x)) _ _ _
 have hin:∀ env∈(envOfC qual scope s₀.heap.objs.size f cd::outer),∀ a,env.frame=some a->a∈frs (envOfC qual scope s₀.heap.objs.size f cd::outer):=λenv he a ha=>List.mem_filterMap.mpr ⟨env,he,ha⟩
 have st:s.heap.FunFrames (PySem.W.hideAll s.heap (frs (envOfC qual scope s₀.heap.objs.size f cd::outer))) (envOfC qual scope s₀.heap.objs.size f cd::outer):=PySem.W.funFrames_hide I.stack hin
 refine wpAny_leaves_madeW (s:={ s with heap:=h' }) (I.ok.frames) (L:=s₀.heap.objs.size) rfl (λb o e=>PySem.W.of_hideAll _ e) st m λh'' t x1 _ _ x2=>?_
 have nx0:s₀.heap.get? x=none:=by
  cases q:s₀.heap.get? x with
  |none=>rfl
  |some o=>
   obtain ⟨o',q'⟩:=I.base.there x o q (by show x∉([]:List Addr);simp)
   rw [m.new] at q';cases q'
 have hHx:H x=none:=by
  cases q:H x with
  |none=>rfl
  |some o=>
   obtain ⟨u,hu⟩:=zEt (I.hok x o q)
   rw [m.new] at hu;cases hu
 exact zO8 (s:=s) I (λb mb=>.inl mb) x1 ((Heap.UpToSlots.of_keeps m.keeps).trans x2) nx0 hHx hE
end
abbrev bmV:List Value:=[.type "ValueError",.type "Exception",.type "BaseException",.type "object"]
def zQR (K:Fg) (C:Addr):Prop:=PySem.W.excIn K C bmV "ValueError.__new__" = true
theorem zLP {K:Fg} (q:zQR K C):∃ bm N nm qn bs hdct sn sub ab col dd k0 k1 k2 k3 k5 oN,
  K.lookup C=some (excClassObj nm qn C N bs bm hdct sn sub ab col dd k0 k1 k2 k3 k5 "ValueError.__new__")/\K.lookup N=some oN/\(∀ h,K.In h->h.isNs N=true/\h.nsMap N "__init__" = none/\OwnTail h bmV bm):=by
 have q':=q
 unfold zQR PySem.W.excIn at q'
 split at q'
 ·next dd cd sl ho=>
  split at q'
  ·next C' bm k0 k1 k2 k3 n k5 hm hs=>
   rw [Bool.and_eq_true,Bool.and_eq_true,Bool.and_eq_true,Bool.and_eq_true,Bool.and_eq_true] at q'
   obtain ⟨⟨⟨⟨⟨e1,e2⟩,e3⟩,e4⟩,e5⟩,e6⟩:=q'
   have e1':C'=C:=by simpa using e1
   have e2':n = "ValueError.__new__":=by simpa using e2
   have e6':PySem.W.nsIn K cd.ns "__init__" = some none:=by simpa using e6
   subst e1' e2'
   cases cd with
   |mk nm bs mro ns qn hd sn sub ab col del=>
    simp only at hm e3 e5 e6'
    have e3':del=false:=by simpa using e3
    subst hm e3'
    cases sl with
    |mk l=>
     simp only at hs
     subst hs
     have e5':=e5
     unfold PySem.W.nsOkIn at e5'
     split at e5'
     ·next hN=>exact ⟨bm,ns,nm,qn,bs,hd,sn,sub,ab,col,dd,k0,k1,k2,k3,k5,_,ho,hN,λh X=>⟨PySem.W.isNs_of_in X e5,PySem.W.nsMap_none_of_in X e5 e6',PySem.W.tail_of_in X e4⟩⟩
     ·cases e5'
  ·cases q'
 ·cases q'
section
variable {P:Program} {w:World} {K:Fg} {mg:MGt} {base:Heap} {N:List Str} {qual:Str} {scope:Scope} {f:Addr} {cd:Value} {A:Around} {outer:List Env} {s₀:Shared} {H₀:Hp} {E:XK}
theorem zNa (hC:zQR K C) (hg:Gl (cxE P w K mg base N qual scope f cd A outer s₀ H₀ E) x) (hm:mg x=some (.ref C)) (ha:PA (cxE P w K mg base N qual scope f cd A outer s₀ H₀ E) [e] t) (hd:nDb x:=by decide) (he:starEach [e] (cxE P w K mg base N qual scope f cd A outer s₀ H₀ E).env=(false,eval e (cxE P w K mg base N qual scope f cd A outer s₀ H₀ E).env)::starEach [] (cxE P w K mg base N qual scope f cd A outer s₀ H₀ E).env:=by rfl) (hpl:(backTo cpos (starEach [] (cxE P w K mg base N qual scope f cd A outer s₀ H₀ E).env)).any (·.1)=false:=by rfl) :
  PS (cxE P w K mg base N qual scope f cd A outer s₀ H₀ E) (.Raise (some (.Call (.Name x np) [e] [] cpos)) none pos) (λ_ σ H=>t σ H λvs H1=>vs.length<=sizeLine/\E (.ref C) none H1):=by
 intro pins s σ H D I h
 obtain ⟨bm,Nn,nm,qn,bs,hdct,sn,sub,ab,col,dd,k0,k1,k2,k3,k5,oN,o1,oN1,oAll⟩:=zLP hC
 obtain ⟨o2,o3,o4⟩:=oAll _ I.kIn
 have hbs:bm.contains (.type "BaseException")=true:=o4.hasType (by decide)
 have e1:=PySem.F.excBase_ValueError
 refine wpAny_Raise_call_subU (C:=C) (nm:=nm) (q:=qn) (N:=Nn) (bs:=bs) (bm:=bm) (hdct:=hdct) (sn:=sn) (sub:=sub) (ab:=ab) (col:=col) (dd:=dd) (k0:=k0) (k1:=k1) (k2:=k2) (k3:=k3) (k5:=k5) (mN:=s.heap.nsMap Nn) e1 (by decide) e1 hbs (I.ok.hd rfl) (by rw [he];show (false || (backTo cpos (starEach [] _)).any (·.1))=false;rw [hpl];rfl) o3 ?_
 refine zDS I hg hm ⟨rfl,?_⟩ hd
 have hA:=ha cpos pins s σ H _ I h
 rw [he] at hA ⊢
 refine Calls.evalArgs_plain ?_
 refine thn hA λus s2 zz=>?_
 obtain ⟨vs,H1,I1,rv,hl,hE⟩:=zz
 exact ⟨rfl,by show us.length<=_;rw [<- rv.length];exact hl,I1.kIn _ _ o1,(Heap.Ns.of_isNs o2).at' (λo e=>by rw [I.kIn _ _ oN1] at e;cases e;exact I1.kIn _ _ oN1),(oAll _ I1.kIn).2.2,λh' x m=>zQQ I1 m hE⟩
end
inductive zBR where
 |o (x:Out)|ex (c:Nat)
def PostX (K:Fg) (κ:Nat->Addr) (W:XK) (G0 H0:Hp) (E:zKS):zBR->Prop
 |.o x=>zRo K G0 H0 E x
 |.ex c=>∀ G H,Bs G0 H0 G H->W (.ref (κ c)) none H
def tSx (K:Fg) (κ:Nat->Addr) (W:XK) (F:Rho->Option zBR):TS:=λE σ H=>∃ G0 H0 G ρ o,StR K G0 H0 G H ρ σ/\F ρ=some o/\PostX K κ W G0 H0 E o
abbrev SX (X:Cx) (κ:Nat->Addr) (W:XK) (s:Stmt) (F:Rho->Option zBR):Prop:=PS X s (tSx X.K κ W F)
abbrev SXs (X:Cx) (κ:Nat->Addr) (W:XK) (s:List Stmt) (F:Rho->Option zBR):Prop:=PSs X s (tSx X.K κ W F)
section
variable {X:Cx} {κ:Nat->Addr} {W:XK} {e a b:Expr} {es:List Expr} {f g:ROd} {fl:ROl} {p:ROb} {pos:Pos} {F F':Rho->Option zBR} {F0:ROo} {st:Stmt} {rest:List Stmt}
noncomputable def oX (F:ROo):Rho->Option zBR:=λρ=>(F ρ).map .o
theorem zHH (h:SS X st F0):SX X κ W st (oX F0):=qN h λQ σ H=>by
 rintro ⟨G0,H0,G,ρ,o,st,ef,k⟩
 obtain ⟨x,e1,rfl⟩:=Option.map_eq_some_iff.mp ef
 exact ⟨G0,H0,G,ρ,x,st,e1,k⟩
theorem zHI (h:SSs X rest F0):SXs X κ W rest (oX F0):=zG6 h λQ σ H=>by
 rintro ⟨G0,H0,G,ρ,o,st,ef,k⟩
 obtain ⟨x,e1,rfl⟩:=Option.map_eq_some_iff.mp ef
 exact ⟨G0,H0,G,ρ,x,st,e1,k⟩
noncomputable def sqX (F F':Rho->Option zBR):Rho->Option zBR:=λρ=>(F ρ).bind λo=>match o with
 |.o (.nx ρ')=>F' ρ'
 |o=>some o
theorem zAE (h1:SX X κ W st F) (h2:SXs X κ W rest F'):SXs X κ W (st::rest) (sqX F F'):=zG6 (zIn h1 h2) λQ σ H=>by
 rintro ⟨G0,H0,G,ρ,o,st,ef,k⟩
 obtain ⟨o1,e1,e2⟩:=Option.bind_eq_some_iff.mp ef
 refine ⟨G0,H0,G,ρ,o1,st,e1,?_⟩
 cases o1 with
 |o x=>
  cases x with
  |nx ρ'=>exact λσ' G' H' st'=>⟨G0,H0,G',ρ',o,st',e2,k⟩
  |rt d=>cases e2;exact k
  |ro d=>cases e2;exact k
  |rm d ρ=>cases e2;exact k
  |bk d=>cases e2;exact k
  |ct d=>cases e2;exact k
 |ex c=>cases e2;exact k
theorem zLQ (h1:SX X κ W st F):SXs X κ W [st] F:=zF7 h1
noncomputable def zO9 (c:ROb) (F F':Rho->Option zBR):Rho->Option zBR:=λρ=>(c ρ).bind λb=>if b=true then F ρ else F' ρ
theorem zSj (hc:SB X c p) (ha:SXs X κ W A F) (hb:SXs X κ W B F'):SX X κ W (.If c A B pos) (zO9 p F F'):=qN (zPd hc ha hb) λQ σ H=>by
 rintro ⟨G0,H0,G,ρ,o,st,ef,k⟩
 obtain ⟨d,e1,e2⟩:=Option.bind_eq_some_iff.mp ef
 refine ⟨G,ρ,d,st.bs.gh,st.er,e1,λG' H' t=>?_⟩
 cases d with
 |true=>rw [if_pos rfl] at e2 ⊢;exact ⟨G0,H0,G',ρ,o,st.step t,e2,k⟩
 |false=>rw [if_neg Bool.false_ne_true] at e2 ⊢;exact ⟨G0,H0,G',ρ,o,st.step t,e2,k⟩
def forX (g:D->Rho->Option Rho) (F:Rho->Option zBR):List D->Rho->Option zBR
 | [],ρ=>some (.o (.nx ρ))
 |d::ds,ρ=>(g d ρ).bind λρ1=>(F ρ1).bind λo=>match o with
  |.o (.nx ρ')=>forX g F ds ρ'
  |.o (.ct ρ')=>forX g F ds ρ'
  |.o (.bk ρ')=>some (.o (.nx ρ'))
  |.o (.rt d)=>some (.o (.rt d))
  |.o (.ro s)=>some (.o (.ro s))
  |.o (.rm d ρ)=>some (.o (.rm d ρ))
  |.ex c=>some (.ex c)
def zAs (c:ROb) (F:Rho->Option zBR):Nat->Rho->Option zBR
 |0,_=>none
 |n+1,ρ=>(c ρ).bind λb=>if b=true then (F ρ).bind λo=>match o with
   |.o (.nx ρ')=>zAs c F n ρ'
   |.o (.ct ρ')=>zAs c F n ρ'
   |.o (.bk ρ')=>some (.o (.nx ρ'))
   |.o (.rt d)=>some (.o (.rt d))
   |.o (.ro s)=>some (.o (.ro s))
   |.o (.rm d ρ)=>some (.o (.rm d ρ))
   |.ex c=>some (.ex c)
  else some (.o (.nx ρ))
def zEu (n:Nat) (p:ROb) (F:Rho->Option zBR):Rho->Option zBR:=λρ=>zAs p F n ρ
theorem zNb (n:Nat) (hp:PassesOwn (model X.prog X.w) X.A X.env X.xe) (hc:SB X c p) (hb:SXs X κ W body F):SX X κ W (.While c body [] pos) (zEu n p F):=
 qN (zIp hp hc hb) λE σ H=>by
  rintro ⟨G0,H0,G,ρ,o,st,ef,k⟩
  refine ⟨λm σ' H'=>∃ G' ρ',StR X.K G0 H0 G' H' ρ' σ'/\zAs p F m ρ'=some o,⟨n,G,ρ,st,ef⟩,?_⟩
  rintro m σ2 H2 ⟨G2,ρ2,st2,ef2⟩
  cases m with
  |zero=>cases ef2
  |succ m=>
   obtain ⟨b,e1,e2⟩:=Option.bind_eq_some_iff.mp ef2
   refine ⟨G2,ρ2,b,st2.bs.gh,st2.er,e1,λG3 H3 t3=>?_⟩
   cases b with
   |false=>
    rw [if_neg Bool.false_ne_true] at e2 ⊢
    cases e2
    exact k σ2 G3 H3 (st2.step t3)
   |true=>
    rw [if_pos rfl] at e2 ⊢
    obtain ⟨o3,e5,e6⟩:=Option.bind_eq_some_iff.mp e2
    refine ⟨λσ' H'=>∃ G' ρ',StR X.K G0 H0 G' H' ρ' σ'/\zAs p F m ρ'=some o,λσ' H' h=>⟨m,Nat.lt_succ_self _,h⟩,G0,H0,G3,ρ2,o3,st2.step t3,e5,?_⟩
    cases o3 with
    |o x3=>
     cases x3 with
     |nx ρ'=>exact λσ5 G5 H5 st5=>⟨G5,ρ',st5,e6⟩
     |ct ρ'=>exact λσ5 G5 H5 st5=>⟨G5,ρ',st5,e6⟩
     |bk ρ'=>cases e6;exact k
     |rt d=>cases e6;exact k
     |ro d=>cases e6;exact k
     |rm d ρ=>cases e6;exact k
    |ex c=>cases e6;exact k
end
def spX (K:Fg) (κ:Nat->Addr) (f:List D->Option (Except Nat D)) (n:Nat):Sp:=λvs H Q E=>∃ G ds r,zu G H/\Reps K G ds vs/\ds.length=n/\f ds=some r/\match r with
 |.ok d=>∀ v G' H',zg G H G' H'->Rep K G' d v->Q v H'
 |.error c=>∀ G' H',zg G H G' H'->E (.ref (κ c)) none H'
def zQS (N:List Str) (F:Rho->Option zBR) (ds:List D):Option (Except Nat D):=(F (ds.map Sl.v++List.replicate (N.length-ds.length) .un)).bind λo=>match o with
 |.o (.rt d)=>some (.ok d)
 |.o (.nx _)=>some (.ok .non)
 |.ex c=>some (.error c)
 |_=>none
section
variable {P:Program} {w:World} {K:Fg} {mg:MGt} {base:Heap} {κ:Nat->Addr}
theorem zPA {x qual:Str} {st:Stmt} {fa:Addr} {fd:FuncData} {N ps:List Str} {k:Nat} {F:Rho->Option zBR} {f:List D->Option (Except Nat D)}
  (FF:Fun K x qual st fa fd) (S:zZ N ps (zI st))
  (hbody:∀ (cdv:Value) (A:Around) (outer:List Env) (s:Shared) (H:Hp) (E:XK),zBn k (A.deeper (envOfC qual (zI st) s.heap.objs.size fa cdv))->SXs (cxE P w K mg base N qual (zI st) fa cdv A outer s H E) κ E (ye st) F)
  (hf:∀ ds r,ds.length=ps.length->f ds=some r->zQS N F ds=some r):zF8 P w K mg base (CXE P w) (k+1) fa fd ps (spX K κ f ps.length):=by
 obtain ⟨oc,od,kV,doc,pm,an,cdv,ct,osl,rfl,lk,hcd⟩:=FF.ex
 refine zPk lk hcd S (λvs H Q E h=>?_) λA outer s H vs Q E hr h=>?_
 ·obtain ⟨G,ds,d,_,r,hn,_⟩:=h
  rw [<- r.length,hn]
 ·obtain ⟨G,ds,r,sm,rp,hn,ef,kk⟩:=h
  refine ⟨_,hbody cdv A outer s H E hr,?_⟩
  obtain ⟨o,e1,e2⟩:=Option.bind_eq_some_iff.mp (hf ds r hn ef)
  have er:=zGE (N:=N) (H:=H) rp
  refine ⟨G,H,G,_,o,⟨er,⟨sm,zu.refl _,zu.refl _,λb o e n=>by rw [e] at n;cases n⟩,λi u a h1 h2 h3=>?_⟩,e1,?_⟩
  ·exfalso
   by_cases hi:i<ds.length
   ·rw [List.getElem?_append_left (by simpa using hi),List.getElem?_map] at h1
    cases q:ds[i]? with
    |none=>rw [q] at h1;cases h1
    |some d=>rw [q] at h1;cases h1;cases h2
   ·rw [List.getElem?_append_right (by simpa using hi),List.getElem?_replicate] at h1
    split at h1<;>cases h1
    cases h2
  ·cases o with
   |o x=>
    cases x with
    |rt d'=>
     cases e2
     exact λv G' H' b r'=>kk v G' H' ⟨b.gg,b.hh,b.gh,b.fr⟩ r'
    |nx ρ=>
     cases e2
     exact λσ' G' H' st'=>kk .non G' H' ⟨st'.bs.gg,st'.bs.hh,st'.bs.gh,st'.bs.fr⟩ (zBM.mpr rfl)
    |bk ρ=>cases e2
    |ct ρ=>cases e2
    |ro ρ=>cases e2
    |rm d ρ=>cases e2
   |ex c=>
    cases e2
    exact λG' H' b=>kk G' H' ⟨b.gg,b.hh,b.gh,b.fr⟩
end
structure zNc (P:Program) (w:World) (K:Fg) (mg:MGt) (base:Heap) (κ:Nat->Addr) (k:Nat) (x:Str) (n:Nat) (F:List D->Option (Except Nat D)):Prop where
 ex:∃ f fd ps,zF8 P w K mg base (CXE P w) k f fd ps (spX K κ F n)/\mg x=some (.ref f)/\PySem.W.keepIn K (.ref f)=true/\L2.zD8 K fd ps []
section
variable {X:Cx} {κ:Nat->Addr} {W:XK} {e:Expr} {es:List Expr} {fl:ROl} {pos p cpos:Pos} {x y:Str} {k n:Nat} {f:List D->Option (Except Nat D)}
def tCx (K:Fg) (κ:Nat->Addr) (W:XK) (g:Rho->Option (Except Nat D)):TE:=λσ H Q=>∃ G ρ r,zu G H/\Er K G H ρ σ/\g ρ=some r/\match r with
 |.ok d=>∀ v G' H',zg G H G' H'->Rep K G' d v->Q v H'
 |.error c=>∀ G' H',zg G H G' H'->W (.ref (κ c)) none H'
theorem zQT (h:zNc X.prog X.w X.K X.mg X.base κ k x n f) (hP:zDr (CXE X.prog X.w) X W) (hr:zBn k X.A) (hg:X.env.kindOf x=some .globalImplicit) (hn:(e::es).length=n) (ha:SA X (e::es) fl) (hdb:nDb x:=by decide)
  (he:stE X e es:=by rfl) (hpl:zDv X pos es:=by rfl) :
  PE X (.Call (.Name x p) (e::es) [] pos) (tCx X.K κ W λρ=>(fl ρ).bind f):=by
 obtain ⟨fa,fd,ps,FO,hm,hk,hb⟩:=h.ex
 refine zBo (zEZ (E:=W) FO hr hg hm hk hb .nil hP ha.pa hdb he hpl) λσ H Q zz=>?_
 obtain ⟨G,ρ,r,s,er,ef,k⟩:=zz
 obtain ⟨xs,e1,e2⟩:=Option.bind_eq_some_iff.mp ef
 refine ⟨G,ρ,xs,s,er,e1,λvs G1 H1 t1 r1=>?_⟩
 show spX X.K κ f n (vs ++ []) H1 Q W
 rw [List.append_nil]
 refine ⟨G1,xs,r,t1.s,r1,by rw [ha.len _ _ e1,hn],e2,?_⟩
 cases r with
 |ok d=>exact λv G' H' t r=>k v G' H' (t1.trans t) r
 |error c=>exact λG' H' t=>k G' H' (t1.trans t)
def zLR (g:Rho->Option (Except Nat D)):Rho->Option zBR:=λρ=>(g ρ).map λr=>match r with
 |.ok _=>.o (.nx ρ)
 |.error c=>.ex c
theorem zQU {g:Rho->Option (Except Nat D)} (h:PE X e (tCx X.K κ W g)) (hs:zGB X e none pos:=by rfl):SX X κ W (.Expr e pos) (zLR g):=
 qN (zEX h hs) λE σ H=>by
  rintro ⟨G0,H0,G,ρ,o,st,ef,k⟩
  obtain ⟨r,e1,rfl⟩:=Option.map_eq_some_iff.mp ef
  refine ⟨G,ρ,r,st.bs.gh,st.er,e1,?_⟩
  cases r with
  |ok d=>exact λv G' H' t r=>k σ G' H' (st.step t)
  |error c=>exact λG' H' t=>k G' H' (st.bs.step t)
def zNd (i:Nat) (g:Rho->Option (Except Nat D)):Rho->Option zBR:=λρ=>(g ρ).map λr=>match r with
 |.ok d=>.o (.nx (ρ.set i (.v d)))
 |.error c=>.ex c
theorem zSk (i:Nat) {g:Rho->Option (Except Nat D)} (h:PE X e (tCx X.K κ W g)) (hN:X.N.Nodup) (hi:X.N[i]?=some y) (hx:Loc X.env.scope y) (hs:zGB X e (some (.Name y pos')) pos:=by rfl) (hf:fnL X y:=by first|exact .inl rfl|exact .inr rfl|assumption):SX X κ W (.Assign [.Name y pos'] e pos) (zNd i g):=
 qN (zCM hN hi hx h hs hf) λE σ H=>by
  rintro ⟨G0,H0,G,ρ,o,st,ef,k⟩
  obtain ⟨r,e1,rfl⟩:=Option.map_eq_some_iff.mp ef
  refine ⟨G,ρ,r,st.bs.gh,st.er,e1,?_⟩
  cases r with
  |ok d=>exact λv G' H' t r=>k _ G' H' ((st.step t).setV r)
  |error c=>exact λG' H' t=>k G' H' (st.bs.step t)
end
section
variable {P:Program} {w:World} {K:Fg} {mg:MGt} {base:Heap} {N:List Str} {qual:Str} {scope:Scope} {fa:Addr} {cd:Value} {A:Around} {outer:List Env} {s₀:Shared} {H₀:Hp} {E:XK} {κ:Nat->Addr}
def zD0 (c:Nat) (fl:ROl):Rho->Option zBR:=λρ=>(fl ρ).map λ_=>.ex c
theorem zI1 (c:Nat) {fl:ROl} (hC:zQR K (κ c)) (hg:Gl (cxE P w K mg base N qual scope fa cd A outer s₀ H₀ E) x) (hm:mg x=some (.ref (κ c))) (ha:SA (cxE P w K mg base N qual scope fa cd A outer s₀ H₀ E) [e] fl) (hd:nDb x:=by decide) (he:starEach [e] (cxE P w K mg base N qual scope fa cd A outer s₀ H₀ E).env=(false,eval e (cxE P w K mg base N qual scope fa cd A outer s₀ H₀ E).env)::starEach [] (cxE P w K mg base N qual scope fa cd A outer s₀ H₀ E).env:=by rfl) (hpl:(backTo cpos (starEach [] (cxE P w K mg base N qual scope fa cd A outer s₀ H₀ E).env)).any (·.1)=false:=by rfl) :
  SX (cxE P w K mg base N qual scope fa cd A outer s₀ H₀ E) κ E (.Raise (some (.Call (.Name x np) [e] [] cpos)) none pos) (zD0 c fl):=
 qN (zNa hC hg hm ha.pa hd he hpl) λQ σ H=>by
  rintro ⟨G0,H0,G,ρ,o,st,ef,k⟩
  obtain ⟨xs,e1,rfl⟩:=Option.map_eq_some_iff.mp ef
  refine ⟨G,ρ,xs,st.bs.gh,st.er,e1,λvs G1 H1 t1 r1=>⟨?_,k G1 H1 (st.bs.step t1)⟩⟩
  rw [<- r1.length,ha.len _ _ e1]
  exact zAp (by simp)
end
section
variable {X:Cx} {e:Expr} {f:ROd} {pos p1 p2 p3:Pos} {j1 j3}
def fsO (a b:Str):D->Option D
 |.int i=>if 0<=i/\i<1000000/\(Str.empty++a++((toString i:String):Str)++b).length<=1000000 then some (.str (Str.empty++a++((toString i:String):Str)++b)) else none
 |_=>none
theorem zLS {i:Int} (h0:0<=i) (h1:i<1000000):i.natAbs.log2<1920:=by
 by_cases z:i.natAbs=0
 ·rw [z];decide
 ·have h2:i.natAbs<2 ^ 20:=by omega
  have h3:=(Nat.log2_lt z).mpr h2
  omega
theorem zAF (a b:Str):(a++b).length=a.length+b.length:=by
 show (Str.append a b).length=_
 simp [Str.append,Str.length]
theorem zLT (ha:SR X e f):SE X (.JoinedStr [.Constant (.str a) j1 p1,.FormattedValue e (-1) none p2,.Constant (.str b) j3 p3] pos) (b1 f (fsO a b)):=by
 intro pins s σ H Q I h
 obtain ⟨G,ρ,d,sm,er,ef,k⟩:=h
 obtain ⟨d1,e1,ef⟩:=Option.bind_eq_some_iff.mp ef
 cases d1 with
 |int i=>
  simp only [fsO] at ef
  split at ef
  ·rename_i hc
   obtain ⟨h0,h1,h2⟩:=hc
   cases ef
   rw [zAF,zAF,zAF] at h2
   refine JoinedStr_many (joinParts_cons (Calls.Constant_str ⟨by rw [zAF,sizeLine_eq];omega,?_⟩))
   refine joinParts_cons (FormattedValue_plain (thn (ha pins _ σ H (λv H'=>∃ G',zg G H G' H'/\zBu X.K G' H' (.int i) v) (I.tok _) ⟨G,ρ,_,sm,er,e1,λv G' H' t r=>⟨G',t,r⟩⟩) λv s2 zz=>?_))
   obtain ⟨x,H1,I1,rv,G',t1,r1⟩:=zz
   have hx:=r1.int
   subst hx
   obtain ⟨tk,rfl⟩:=(show ∃ t,v=Value.int i t from rv)
   refine formatField_int_small (zLS h0 h1) ⟨by rw [zAF,zAF,sizeLine_eq];omega,?_⟩
   refine joinParts_cons (Calls.Constant_str ⟨by rw [zAF,zAF,zAF,sizeLine_eq];omega,joinParts_nil ?_ (by rw [zAF,zAF,zAF,sizeLine_eq];omega)⟩)
   exact ⟨.str _,H1,I1.tok _,⟨_,rfl⟩,k _ G' H1 t1 (zAU.mpr rfl)⟩
  ·cases ef
 |_=>cases ef
end
structure zFU (X:Cx) (pins:PNt) (H:Hp) (x:Addr):Prop where
 h0:X.s₀.heap.get? x=none
 hH:H x=none
 hL:x≠X.env.locals
 hC:∀ y c,X.env.cells.lookup y=some c->c≠x
 hp:∀ p∈X.pn++pins,p.1≠x
section
variable {X:Cx} {pins:PNt} {σ:L2.St} {H H':Hp} {s s':Shared}
theorem zSl (I:Inv X pins σ H s) (hex:X.ex = []) (n:s.heap.get? x=none) (hH:H' x=none):zFU X pins H' x:=by
 refine ⟨?_,hH,λz=>?_,λy c e z=>?_,λp hp z=>?_⟩
 ·cases q:X.s₀.heap.get? x with
  |none=>rfl
  |some o=>
   obtain ⟨o',q'⟩:=I.base.there x o q (by rw [hex];simp)
   rw [n] at q';cases q'
 ·obtain ⟨m,⟨o,_,_,ho,_⟩,_⟩:=I.loc
  rw [z,ho] at n;cases n
 ·obtain ⟨v,o,ho,_⟩:=I.cell y c e
  rw [z,n] at ho;cases ho
 ·have:=(I.pin p hp).1
  rw [z,n] at this;cases this
theorem zGK (I:Inv X pins σ H s) (nx:zFU X pins H x) (nT:zFU X pins H T) (st:Heap.StaysIn (PySem.W.hideAll s.heap (x::T::frs X.stack)) h') (up:s.heap.UpToSlots h'):Inv X pins σ H { s with heap:=h' }:=by
 have keep:∀ b o,s.heap.get? b=some o->b≠x->b≠T->b∉frs X.stack->h'.get? b=some o:=λb o e n1 n2 n3=>st b o (PySem.W.hideAll_get _ e (by simp [n1,n2,n3]))
 have fr:∀ b o,s.heap.get? b=some o->b∈frs X.stack->∃ sl,h'.get? b=some { o with slots:=sl }:=λb o e m=>by
  obtain ⟨_,ob,ho,hd⟩:=I.stack.mem m
  rw [e] at ho;cases ho
  exact up b o e hd
 have any:∀ b o,s.heap.get? b=some o->b≠x->b≠T->∃ sl,h'.get? b=some { o with slots:=sl }:=λb o e n1 n2=>by
  by_cases m:b∈frs X.stack
  ·exact fr b o e m
  ·exact ⟨o.slots,keep b o e n1 n2 m⟩
 refine I.stepN (g':=s.gens) (t':=s.toks) (d':=s.drawn) (ch:=[x,T]) (λb hb=>?_) (λb o hL nf nc e n=>?_) (λb o _ _ nc e n=>?_) (λb o _ e n=>n) (λb o nc e=>?_) (λ_ _ e=>e) (λ_ _ _ e=>e) (λb ps e=>⟨#[],by rw [e];simp⟩) (λm hm=>?_) ?_ I.bare
 ·have:b=x\/b=T:=by simpa using hb
  rcases this with rfl|rfl
  ·exact ⟨.inr nx.h0,nx.hL,nx.hC,nx.hp⟩
  ·exact ⟨.inr nT.h0,nT.hL,nT.hC,nT.hp⟩
 ·have n':b≠x/\b≠T:=by simpa using nc
  exact keep b o e n'.1 n'.2 λz=>(List.mem_cons.mp (I.stkSub b z)).elim hL nf
 ·have n':b≠x/\b≠T:=by simpa using nc
  exact any b o e n'.1 n'.2
 ·have n':b≠x/\b≠T:=by simpa using nc
  obtain ⟨sl,q⟩:=any b o e n'.1 n'.2
  exact ⟨_,q⟩
 ·exact up.ns hm
 ·refine HOk.on I.hok λb u o e q=>?_
  refine keep b u q (λz=>?_) (λz=>?_) λz=>?_
  ·rw [z,nx.hH] at e;cases e
  ·rw [z,nT.hH] at e;cases e
  ·rw [I.stkFree b z] at e;cases e
end
section
variable {X:Cx} {κ:Nat->Addr} {e:Expr} {es:List Expr} {fl:ROl} {pos p:Pos} {x:Str} {k n:Nat} {f:List D->Option (Except Nat D)}
theorem zLU (h:zNc X.prog X.w X.K X.mg X.base κ k x n f) (hr:zBn k X.A) (hg:X.env.kindOf x=some .globalImplicit) (hn:(e::es).length=n) (ha:SA X.nox (e::es) fl) (hex:X.ex = []) (I:Inv X pins σ H s) {Q Xe:VSt} (sm:zu G H) (er:Er X.K G H ρ σ) (ef:(fl ρ).bind f=some r) (hok:∀ d,r = .ok d->∀ v u G' H' s',zg G H G' H'->Rep X.K G' d v->y8 v u->Inv X pins σ H' s'->Q u s') (hbad:∀ c,r = .error c->∀ G' H' s' y T,zg G H G' H'->Inv X pins σ H' s'->Fly X.stack y T (.ref (κ c)) s'.heap->zFU X pins H' y->zFU X pins H' T->Xe (.ref y) s') (hdb:nDb x:=by decide) (he:stE X e es:=by rfl) (hpl:zDv X pos es:=by rfl) :
  wpAny (model X.prog X.w) X.A (eval (.Call (.Name x p) (e::es) [] pos) X.env) Q Xe s:=by
 obtain ⟨fa,fd,ps,FO,hm,hk,hb⟩:=h.ex
 obtain ⟨xs,e1,e2⟩:=Option.bind_eq_some_iff.mp ef
 refine wpAny_Call_Name_kw (zDS I hg hm ?_ hdb)
 have hA:=ha.pa pos pins s σ H (λvs H1=>∃ G1,zg G H G1 H1/\Reps X.K G1 xs vs) (I.wish _) ⟨G,ρ,xs,sm,er,e1,λvs G1 H1 t1 r1=>⟨G1,t1,r1⟩⟩
 refine PySem.W.callWith_K (h₀:=X.base) I.ok.mod.kin hk (wpAny_mono hA (λus s1 ⟨vs,H1,I1,rv,G1,t1,r1⟩=>⟨I1.unwish.kIn,?_⟩) λ_ _ z=>False.elim z) he hpl
 have I1:=I1.unwish
 have hl:us.length=ps.length:=by
  have:=FO.len vs H1 (λ_ _=>True) (λ_ _ _=>True) ⟨G1,xs,r,t1.s,r1,by rw [ha.len _ _ e1,hn],e2,by cases r with|ok d=>exact λ_ _ _ _ _=>trivial|error c=>exact λ_ _ _=>trivial⟩
  rw [<- rv.length,this]
 refine wpAny_call (codeAny_mono (FO.run X.A X.stack s1 H1 ⟨us,[]⟩ us vs (λv H'=>∃ d G',r = .ok d/\zg G H G' H'/\Rep X.K G' d v) (λu _ H'=>∃ c G',r = .error c/\u = .ref (κ c)/\zg G H G' H') hr I1.env0 (by simpa using hb s1 us I1.kIn (by simpa using hl)) rv ⟨G1,xs,r,t1.s,r1,by rw [ha.len _ _ e1,hn],e2,?_⟩) λrr s' hq=>?_)
 ·cases r with
  |ok d=>exact λv G' H' t r=>⟨d,G',rfl,t1.trans t,r⟩
  |error c=>exact λG' H' t=>⟨c,G',rfl,rfl,t1.trans t⟩
 ·cases rr with
  |error u=>
   obtain ⟨y,T,C,H',rfl,os,bare,un,hok',fly,ny,nT,hy,hT,c,G',rfl,eC,t⟩:=hq
   cases eC
   have J:Inv X pins σ H' s':=I1.call' os un hok' bare λb m=>absurd m (by simp)
   exact hbad c rfl G' H' s' y T t J fly (zSl I1 hex ny hy) (zSl I1 hex nT hT)
  |ok fw=>
   cases fw with
   |ret u=>
    obtain ⟨v,H',J,rv',d,G',rfl,t,rd⟩:=I1.after hq
    exact hok d rfl v u G' H' s' t rd rv' J
   |next=>exact False.elim hq
   |brk=>exact False.elim hq
   |cont=>exact False.elim hq
end
abbrev hdX (X:Cx) (y:Addr):Cx:={ X with A:=X.A.mark (some (.ref y)),calm:=false }
theorem zLV (I:Inv X pins σ H s) (y:Addr):Inv (hdX X y) pins σ H s:=
 ⟨⟨I.ok.mod,I.ok.kind,I.ok.glob,I.ok.blt,I.ok.above,I.ok.inj,I.ok.has,I.ok.cab,λz=>(by cases z),I.ok.frames,I.ok.stk,I.ok.exf,I.ok.bs,I.ok.bsz,I.ok.noex,I.ok.exfs,I.ok.funs,I.ok.frf⟩,I.os,I.bare,I.base,I.loc,I.cell,I.free,I.freeC,I.pin,I.hok,I.len⟩
theorem zEJ {X:Cx} (ok:X.Ok) (I:Inv (hdX X y) pins σ H s):Inv X pins σ H s:=
 ⟨ok,I.os,I.bare,I.base,I.loc,I.cell,I.free,I.freeC,I.pin,I.hok,I.len⟩
theorem zQV {X:Cx} {pins:PNt} {D:zKS} {f:Flow} {s:Shared} {y:Addr} (ok:X.Ok) (h:SP (hdX X y) pins D f s):SP X pins D f s:=by
 cases f with
 |next=>obtain ⟨σ',H',I,q⟩:=h;exact ⟨σ',H',zEJ ok I,q⟩
 |brk=>obtain ⟨σ',H',I,q⟩:=h;exact ⟨σ',H',zEJ ok I,q⟩
 |cont=>obtain ⟨σ',H',I,q⟩:=h;exact ⟨σ',H',zEJ ok I,q⟩
 |ret u=>obtain ⟨v,σ',H',I,r,q⟩:=h;exact ⟨v,σ',H',zEJ ok I,r,q⟩
section
variable {X:Cx} {C:Addr} {xc:Str} {np hpos:Pos} {b₀:Stmt} {suite:List Stmt} {rest:List ExceptHandler} {th:TS}
theorem zSm (hC:zQR X.K C) (hg:Gl X xc) (hm:X.mg xc=some (.ref C)) (hst:X.stack=X.env::X.outer) (hfr:X.env.frame=some X.env.locals) {pins:PNt} {σ:L2.St} {H:Hp} {s:Shared} {y T:Addr} (I:Inv X pins σ H s) (fl:Fly X.stack y T (.ref C) s.heap) (ny:zFU X pins H y) (nT:zFU X pins H T)
  (hb:PSs (hdX X y).nox (b₀::suite) th) {D:zKS} (ht:th D σ H) {E:VSt} (hd:nDb xc:=by decide) :
  wpAny (model X.prog X.w) X.A (noteFrame (.ref y) X.env) (λ_ s₂=>wpAny (model X.prog X.w) X.A (setFlight (.ref y) none) (λ_ s₃=>
   wpAny (model X.prog X.w) X.A (handleBy (.ref y) X.env (.ExceptHandler (some (.Name xc np)) none (b₀::suite) hpos::rest)) (SP X pins D) E s₃) E s₂) E s:=by
 obtain ⟨a0,fl⟩:=fl
 have fl':=fl
 rw [hst] at fl
 have frm:=I.ok.frames
 rw [hst] at frm
 have stB:∀ h',Heap.StaysIn (PySem.W.hideAll s.heap (y::T::frs (X.env::X.outer))) h'->Heap.StaysIn (PySem.W.hideAll s.heap (y::T::frs X.stack)) h':=λh' z=>by rw [hst];exact z
 refine wpAny_looks_onW frm hfr fl λh4 held4 up4=>?_
 refine wpAny_landsW (s:={ s with heap:=h4 }) held4 λh5 fl5 up5=>?_
 have I5:Inv X pins σ H { s with heap:=h5 }:=zGK I ny nT (stB _ fl5.1) (up4.trans up5)
 obtain ⟨ob,hob,hobc⟩:=fl5.there
 refine wpAny_handleBy_cons (codeAny_handlers_test ?_) (by intro q;cases q)
 refine zDS (zLV I5 y) hg hm ?_ hd
 obtain ⟨bm,Nn,nm,qn,bs,hdct,sn,sub,ab,col,dd,k0,k1,k2,k3,k5,oN,o1,oN1,oAll⟩:=zLP hC
 have o4:=(oAll _ I5.kIn).2.2
 refine wpAny_excMatches_sub_self (I5.kIn _ _ o1) hob hobc (o4.hasType (by decide)) (codeAny_handlers_suite ?_)
 refine lands_againW (s:={ s with heap:=h5 }) fl5 λh6 fl6 up6=>?_
 have I6:Inv X pins σ H { s with heap:=h6 }:=zGK I ny nT (stB _ fl6.1) ((up4.trans up5).trans up6)
 exact wpAny_mono (hb pins _ σ H D ((zLV I6 y).wish _) ht) (λfw s2 q=>zQV I.ok (SP.unwish q)) λ_ _ z=>False.elim z
end
section
variable {X:Cx} {κ:Nat->Addr} {e:Expr} {es:List Expr} {fl:ROl} {pos p cpos epos np hpos:Pos} {x xc y:Str} {k n:Nat} {f:List D->Option (Except Nat D)} {b₀:Stmt} {suite:List Stmt} {Fh:ROo}
def zHJ (g:Rho->Option (Except Nat D)) (cc:Nat) (u:D->Rho->Rho) (Fh:ROo):ROo:=λρ=>(g ρ).bind λr=>match r with
 |.ok d=>some (.nx (u d ρ))
 |.error c=>if c=cc then Fh ρ else none
theorem zQW (cc:Nat) (h:zNc X.prog X.w X.K X.mg X.base κ k x n f) (hr:zBn k X.A) (hg:X.env.kindOf x=some .globalImplicit) (hn:(e::es).length=n) (ha:SA X.nox (e::es) fl) (hex:X.ex = []) (hC:zQR X.K (κ cc)) (hgc:Gl X xc) (hmc:X.mg xc=some (.ref (κ cc))) (hst:X.stack=X.env::X.outer) (hfr:X.env.frame=some X.env.locals)
  (hh:∀ y,SSs (hdX X y).nox (b₀::suite) Fh) (hs:zGB X (.Call (.Name x p) (e::es) [] cpos) none epos:=by rfl) (hdb:nDb x:=by decide) (hdc:nDb xc:=by decide)
  (he:stE X e es:=by rfl) (hpl:zDv X cpos es:=by rfl) :
  SS X (.Try [.Expr (.Call (.Name x p) (e::es) [] cpos) epos] [.ExceptHandler (some (.Name xc np)) none (b₀::suite) hpos] [] [] pos) (zHJ (λρ=>(fl ρ).bind f) cc (λ_ ρ=>ρ) Fh):=by
 intro pins s σ H D I h
 obtain ⟨G0,H0,G,ρ,o,st,ef,k⟩:=h
 obtain ⟨r,e1,e2⟩:=Option.bind_eq_some_iff.mp ef
 refine wpAny_Try_except (wpAny_execs_cons (wpAny_Expr_any (zLU h hr hg hn ha hex I st.bs.gh st.er e1 (λd hd v u G' H' s' t rd rv J=>?_) (λc hc G' H' s' y T t J fly ny nT=>?_) hdb he hpl) I.quiet hs))
 ·subst hd
  cases e2
  exact wpAny_execs_nil (wpAny_execs_nil ⟨σ,H',J,k σ G' H' (st.step t)⟩)
 ·subst hc
  simp only at e2
  split at e2
  ·rename_i hcc
   subst hcc
   exact zSm hC hgc hmc hst hfr J fly ny nT (hh y) ⟨G0,H0,G',ρ,o,st.step t,e2,k⟩ hdc
  ·cases e2
end
structure At (K:Fg) (G H:Hp) (x:Ob) (a:Addr):Prop where
 rep:zKv K G H x a
 nd:(fpO H x a).Nodup
 fr:∀ c∈fpO H x a,G c=none
section
variable {K:Fg} {G H G' H':Hp} {ρ:Rho} {σ:L2.St} {i:Nat} {x:Ob} {a C:Addr} {f:Str} {fl:Fl}
theorem At.step (h:At K G H x a) (t:zg G H G' H'):At K G' H' x a:=by
 have q:=h.rep.same t.g λc m u z=>t.h _ _ z
 refine ⟨q.1,by rw [q.2];exact h.nd,λc m=>?_⟩
 rw [q.2] at m
 obtain ⟨u,e⟩:=h.rep.there c m
 cases z:G' c with
 |none=>rfl
 |some o=>have:=t.f c o z (h.fr c m);rw [e] at this;cases this
end
section
variable {X:Cx} {o:Expr} {pos:Pos} {C:Addr} {f:Str} {i:Nat}
end
theorem zI2 {N:List Str} {vs:List V}:L2.zCf N vs=vs.map some++List.replicate (N.length-vs.length) none:=by
 unfold L2.zCf;rfl
section
variable {X:Cx} {o e:Expr} {es:List Expr} {pos apos:Pos} {C:Addr} {m:Str} {i k n:Nat} {F:Ob->List D->Option D} {fl:ROl}
end
section
variable {K:Fg} {G0 H0 G H H':Hp} {ρ:Rho} {σ:L2.St} {i:Nat} {a b C dx:Addr} {c:Option Addr} {f:Str} {fs:List (Str×Fl)} {ws:List (Str×V)} {y y':Fd}
end
end RD
namespace PySem
theorem zBl {prog:Program} {w:World} {K:Type} [DecidableEq K] {knd:HeapKind prog w K} {A:Around} {E:VSt} {s:Shared} {d a:Addr} {xs:List (K×Addr×Value)} {k:K} {v:Value} {Q:VSt} (hu:knd.room A) (hkey:knd.is s.heap k a) (hm:s.heap.DictOfH knd d xs)
  (h1:∀ p,atKey xs k=some p->Q p.2 { s with toks:=s.toks+knd.draws k })
  (hQ:atKey xs k=none->∀ h',h'.DictOfH knd d (storedH xs k a v)->Heap.SameBut d s.heap h'->Q v { s with heap:=h',toks:=s.toks+knd.draws k })
  (hsz:xs.length<=sizeLine):wpAny (model prog w) A (dictSetDefault d (.ref a) v) Q E s:=by
 obtain ⟨o,es,ep,ho,hc,hd,he,his,hn⟩:=hm
 unfold dictSetDefault
 try with_reducible refine wpAny_holding ?_
 refine wpAny_bind (knd.pyHash hu hkey (wpAny_bind (wpAny_dictFind_heap (s:={ s with toks:=s.toks+knd.draws k }) hu hkey ho hd he his hn ?_ ?_)))
 ·intro hno
  have hnot:k∉xs.map (·.1):=not_mem_keys_of_get hno
  refine wpAny_bind (wpAny_rule (wpAny_bind (wpAny_updateDictKeys (hz:=by have e:=size_of_entries he;omega) (s:={ s with toks:=s.toks+knd.draws k }) ho hd (wpAny_pure (hQ (atKey_none_of_get hno) _ ⟨_,_,ep+1,Heap.get?_update_self _ ho (Obj.isFreed_of_dict (Obj.data_mapDictKeys hd _)),
   hc.mapDictKeys _,Obj.data_mapDictKeys hd _,?_,?_,?_⟩ (Heap.SameBut.update ..))))))
  ·rw [storedH_new (atKey_none_of_get hno)]
   simp [he,entryOfKey]
  ·rw [storedH_new (atKey_none_of_get hno)]
   intro x hx
   rcases List.mem_append.mp hx with hx|hx
   ·exact knd.keeps (his x hx) ho hd (Heap.SameBut.update ..)
   ·simp only [List.mem_singleton] at hx
    subst hx
    exact knd.keeps hkey ho hd (Heap.SameBut.update ..)
  ·rw [storedH_new (atKey_none_of_get hno)]
   rw [List.map_append,List.nodup_append]
   refine ⟨hn,by simp,?_⟩
   intro x hx y hy
   simp only [List.map_cons,List.map_nil,List.mem_singleton] at hy
   subst hy
   exact λe=>hnot (e ▸ hx)
 ·intro j p hj
  refine wpAny_bind (wpAny_dictEntries (s:={ s with toks:=s.toks+knd.draws k }) ho hd ?_)
  rw [entry_at he j,hj]
  exact wpAny_bind (wpAny_rule (wpAny_pure (h1 p (atKey_of_get hn hj))))
theorem qS {prog:Program} {w:World} {K:Type} [DecidableEq K] (knd:HeapKind prog w K) (d a:Addr) (hd:(d == sysModules)=false) (dflt:Value) :
  MeetsIn prog w (Builtin.«dict.setdefault» ⟨[.ref d,.ref a,dflt],[]⟩) (λA R s=>knd.room A.in1/\∃ k xs,knd.is s.heap k a/\s.heap.DictOfH knd d xs/\xs.length<=sizeLine /\
   (∀ p,atKey xs k=some p->R (.ok (.ret p.2)) { s with toks:=s.toks+knd.draws k }) /\
   (atKey xs k=none->∀ h',h'.DictOfH knd d (storedH xs k a dflt)->Heap.SameBut d s.heap h'->R (.ok (.ret dflt)) { s with heap:=h',toks:=s.toks+knd.draws k })):=
 .of_wp λA R s=>by
  rintro ⟨hu,k,xs,hkey,hm,hz,h1,h2⟩
  unfold Builtin.«dict.setdefault»
  refine wpAny_bind ?_
  unfold Builtin.Dict.keyAndDefault
  refine wpAny_bind (wpAny_notOrdered_dict hm.typeIs ?_)
  show wpAny _ _ (pure (d,Value.ref a,some dflt)) _ _ s
  refine wpAny_pure ?_
  show wpAny _ _ (if (d == sysModules)=true then _ else (dictSetDefault d (.ref a) dflt >>= _)) _ _ s
  rw [if_neg (by rw [hd];exact Bool.false_ne_true)]
  exact wpAny_bind (zBl hu hkey hm (λv hv=>wpAny_pure ⟨_,rfl,h1 v hv⟩) (λhn h' hm' hs'=>wpAny_pure ⟨dflt,rfl,h2 hn h' hm' hs'⟩) hz)
end PySem
namespace RD
open PySem PySem.Spec PyProof.Rows L2
def rSetD:V->List V->Hp->VK->Prop:=λx vs H Q=>∃ a y z,x = .ref a/\vs = [y,z]/\((∃ v,zFQ H a y (some v)/\((∃ kvs,H a=some (.dK kvs))\/∃ kvs,H a=some (.dT kvs))/\Q v H)\/(zFQ H a y none/\∃ H',zM4 H a y z H'/\Q z H'))
section
variable {X:Cx}
theorem zGL (hu:X.A.units+1<cLine):MtM X "dict.setdefault" rSetD:=by
 intro pins s σ H x vs v us Q I rx rv h
 obtain ⟨a,y,z,rfl,rfl,h⟩:=h
 cases rx
 obtain ⟨u,r,rfl,ru,rr⟩:=rv.two
 rcases h with ⟨v,g,hm,q⟩|⟨g,H',hp,q⟩
 ·rcases hm with ⟨kvs',em⟩|⟨kvs',em⟩
  ·rcases g with ⟨kvs,k,e,ey,l⟩|⟨kvs,k,b,e,ey,eb,l⟩
   ·subst ey
    obtain ⟨zz,hd,vs,rel,dd⟩:=zJq I.hok e
    have hz:vs.length<=sizeLine:=by rw [<- rel.length];exact zz
    obtain ⟨w',hw,rw'⟩:=zHm.some_of (v:=v) (o:=valueAt vs k) (by rw [l];exact rel.val k)
    exact call_meetsIn PySem.F.slot_dict_setdefault dd.typeIs PySem.F.entry_dict_setdefault (PySem.F.args_dict_setdefault_3 _ _ _) (kt_meets_setdefault (yP X.prog X.w) a (zH1 ru) hd r)
     ⟨vs,dd,hz,(λv' hv'=>by rw [hw] at hv';cases hv';exact ⟨v,H,I.tok _,rw',q⟩),(λhn=>by rw [hw] at hn;cases hn)⟩
   ·rcases e with e|⟨o,e⟩<;>(rw [em] at e;cases e)
  ·rcases g with ⟨kvs,k,e,ey,l⟩|⟨kvs,k,b,e,ey,eb,l⟩
   ·rcases e with e|⟨o,e⟩<;>(rw [em] at e;cases e)
   ·subst ey
    cases (show u=Value.ref b from ru)
    obtain ⟨zz,hd,xs,rel,dd⟩:=zJr I.hok e
    have hz:xs.length<=sizeLine:=by rw [<- Paired.length rel];exact zz
    obtain ⟨w',hw,rw'⟩:=zHm.some_of (v:=v) (o:=(atKey xs k).map (·.2)) (by rw [l];exact rel.val k)
    obtain ⟨p,hp,hp2⟩:=Option.map_eq_some_iff.mp hw
    exact call_meetsIn PySem.F.slot_dict_setdefault dd.typeIs PySem.F.entry_dict_setdefault (PySem.F.args_dict_setdefault_3 _ _ _) (qS (tupleKind (yP X.prog X.w)) a b hd r)
     ⟨tupleKind_room_in1 hu,k,xs,zDu I.hok eb,dd,hz,(λp' hp'=>by rw [hp] at hp';cases hp';exact ⟨v,H,I.tok _,by rw [hp2];exact rw',q⟩),(λhn=>by rw [hp] at hn;cases hn)⟩
 ·rcases hp with ⟨kvs,k,e,ey,l,eH⟩|⟨kvs,k,b,e,ey,eb,l,eH⟩
  ·subst ey eH
   have hv:zBH kvs k=none:=by
    rcases g with ⟨kvs',k',e',ey',l'⟩|⟨kvs',k',b',e',ey',eb',l'⟩
    ·rcases e' with e' | ⟨o,e'⟩
     ·rw [e] at e';cases e'
      have:k=k':=by cases k<;>cases k'<;>simp [kV] at ey'<;>rw [ey']
      subst this;exact l'.symm
     ·rw [e] at e';cases e'
    ·rcases e' with e' | ⟨o,e'⟩<;>(rw [e] at e';cases e')
   obtain ⟨zz,hd,vs,rel,dd⟩:=zPu I.hok e
   have hz:vs.length<=sizeLine:=by rw [<- rel.length];exact zz
   have hl:(zFP kvs k z).length<=sizeLine:=by have:=zBL kvs k z;omega
   have hn:valueAt vs k=none:=zHm.none_of (by rw [<- hv];exact rel.val k)
   refine call_meetsIn PySem.F.slot_dict_setdefault dd.typeIs PySem.F.entry_dict_setdefault (PySem.F.args_dict_setdefault_3 _ _ _) (kt_meets_setdefault (yP X.prog X.w) a (zH1 ru) hd r)
     ⟨vs,dd,hz,(λv' hv'=>by rw [hn] at hv';cases hv'),(λ_ h' dd' hs=>?_)⟩
   have he:∃ q,h'.get? a=some q:=let ⟨q,_,_,hq,_⟩:=dd';⟨q,hq⟩
   exact ⟨z,_,zEc I (by rw [e];exact True.intro) hs he (zOp hl hd (rel.put k rr) dd'),rr,q⟩
  ·subst ey eH
   cases (show u=Value.ref b from ru)
   have hv:zBH kvs k=none:=by
    rcases g with ⟨kvs',k',e',ey',l'⟩|⟨kvs',k',b',e',ey',eb',l'⟩
    ·rcases e' with e' | ⟨o,e'⟩<;>(rw [e] at e';cases e')
    ·cases ey'
     rcases e' with e' | ⟨o,e'⟩
     ·rw [e] at e';cases e'
      rw [eb] at eb'
      have:k.map kV=k'.map kV:=by injection eb' with z;injection z
      have:k=k':=zKk this
      subst this;exact l'.symm
     ·rw [e] at e';cases e'
   obtain ⟨zz,hd,xs,rel,dd⟩:=zPv I.hok e
   have hz:xs.length<=sizeLine:=by rw [<- Paired.length rel];exact zz
   have hl:(zFP kvs k z).length<=sizeLine:=by have:=zBL kvs k z;omega
   have hn:atKey xs k=none:=by
    have:=zHm.none_of (o:=(atKey xs k).map (·.2)) (by rw [<- hv];exact rel.val k)
    simpa using this
   refine call_meetsIn PySem.F.slot_dict_setdefault dd.typeIs PySem.F.entry_dict_setdefault (PySem.F.args_dict_setdefault_3 _ _ _) (qS (tupleKind (yP X.prog X.w)) a b hd r)
     ⟨tupleKind_room_in1 hu,k,xs,zDu I.hok eb,dd,hz,(λp' hp'=>by rw [hn] at hp';cases hp'),(λ_ h' dd' hs=>?_)⟩
   obtain ⟨q',es,ep,hq,h2,h3,h4,_,h5⟩:=dd'
   refine ⟨z,_,zEc (ob:=.dT (zFP kvs k z)) I (by rw [e];exact True.intro) hs ⟨q',hq⟩ ⟨hl,hd,_,(rel.put k eb rr).keeps λc ys ec=>?_,q',es,ep,hq,h2,h3,h4,h5⟩,rr,q⟩
   rw [zY (zPa ec e (λz=>nomatch z))]
   exact ec
end
def zLW:List D->Option (List Key)
 | []=>some []
 |d::r=>(zGs d).bind λk=>(zLW r).map (k :: ·)
def zRr:D->Option (List Key)
 |.tup ds=>zLW ds
 |_=>none
theorem zHK {K:Fg} {G:Hp}:∀ {ds:List D} {ks:List Key} {vs:List V},zLW ds=some ks->Reps K G ds vs->vs=ks.map kV
 | [],ks,vs,h,r=>by cases h;exact yf.mp r
 |d::ds,ks,vs,h,r=>by
  obtain ⟨k,e1,h⟩:=Option.bind_eq_some_iff.mp h
  obtain ⟨l,e2,rfl⟩:=Option.map_eq_some_iff.mp h
  obtain ⟨v,t,rfl,a,b⟩:=zm.mp r
  rw [zDb e1 a,zHK e2 b];rfl
theorem zEK {K:Fg} {G:Hp} {d:D} {ks:List Key} {v:V} (h:zRr d=some ks) (r:Rep K G d v):∃ b,v = .ref b/\G b=some (.tup (ks.map kV)):=by
 cases d with
 |tup ds=>
  obtain ⟨a,vs,e,q,w⟩:=zBN.mp r
  rw [zHK h w] at q
  exact ⟨a,e,q⟩
 |_=>cases h
def zDc {κ:Type} [DecidableEq κ] {α:Type} (kvs:List (κ×α)) (k:κ):Option α:=(kvs.find? λkv=>decide (kv.1=k)).map (·.2)
def zGt {κ:Type} [DecidableEq κ] {α:Type} (k:κ) (x:α):List (κ×α)->List (κ×α)
 | []=>[]
 |q::r=>if q.1=k then (q.1,x)::r else q::zGt k x r
theorem zHL {κ:Type} [DecidableEq κ] {α:Type} {k:κ} {x:α}:∀ (kvs:List (κ×α)),(zGt k x kvs).map (·.1)=kvs.map (·.1)
 | []=>rfl
 |q::r=>by
  unfold zGt
  split
  ·rfl
  ·simp [zHL r]
section
variable {K:Fg} {G H H':Hp} {κ:Type} [DecidableEq κ]
theorem yV.get:∀ {kvs:List (κ×List D)} {ws:List (κ×V)},kvs.map (·.1)=ws.map (·.1)->yV K G H (kvs.map (·.2)) (ws.map (·.2))->(zDc kvs k=none/\zBH ws k=none)\/∃ xs b us,zDc kvs k=some xs/\zBH ws k=some (.ref b)/\H b=some (.lst us)/\Reps K G xs us/\b∈zFR ws
 | [],[],_,_=>.inl ⟨rfl,rfl⟩
 | [],_::_,h,_=>by cases h
 |_::_,[],h,_=>by cases h
 |(k1,x)::kvs,(k2,w)::ws,h,r=>by
  simp only [List.map_cons,List.cons.injEq] at h
  obtain ⟨rfl,h⟩:=h
  simp only [List.map_cons,yV] at r
  obtain ⟨b,us,t,e,e2,r1,r2⟩:=r
  cases e
  by_cases hk:k1=k
  ·right
   refine ⟨x,b,us,?_,?_,e2,r1,qU.mpr (List.mem_cons_self ..)⟩
   ·simp [zDc,hk]
   ·simp [zBH,hk]
  ·rcases yV.get (k:=k) h r2 with ⟨q1,q2⟩|⟨xs,b',us',q1,q2,q3,q4,q5⟩
   ·left
    constructor
    ·simpa [zDc,hk] using q1
    ·simpa [zBH,hk] using q2
   ·right
    refine ⟨xs,b',us',?_,?_,q3,q4,qU.mpr (List.mem_cons_of_mem _ (qU.mp q5))⟩
    ·simpa [zDc,hk] using q1
    ·simpa [zBH,hk] using q2
theorem yV.set (hb:H' b=some (.lst us')) (hr:Reps K G xs' us') (hH:∀ p o,p≠b->H p=some o->H' p=some o):∀ {kvs:List (κ×List D)} {ws:List (κ×V)},kvs.map (·.1)=ws.map (·.1)->yV K G H (kvs.map (·.2)) (ws.map (·.2))->(zFR ws).Nodup->zBH ws k=some (.ref b)->yV K G H' ((zGt k xs' kvs).map (·.2)) (ws.map (·.2))
 | [],[],_,_,_,h=>by cases h
 | [],_::_,h,_,_,_=>by cases h
 |_::_,[],h,_,_,_=>by cases h
 |(k1,x)::kvs,(k2,w)::ws,h,r,n,g=>by
  simp only [List.map_cons,List.cons.injEq] at h
  obtain ⟨rfl,h⟩:=h
  simp only [List.map_cons,yV] at r
  obtain ⟨c,us,t,e,e2,r1,r2⟩:=r
  cases e
  have n':(c::zFR ws).Nodup:=n
  have hn:=List.nodup_cons.mp n'
  by_cases hk:k1=k
  ·have:c=b:=by
    simp [zBH,hk] at g
    exact g
   subst this
   have es:zGt k xs' ((k1,x)::kvs)=(k1,xs')::kvs:=by simp [zGt,hk]
   rw [es]
   simp only [List.map_cons,yV]
   refine ⟨c,us',_,rfl,hb,hr,r2.same (zu.refl _) λp m o z=>hH p o (λq=>?_) z⟩
   subst q
   exact hn.1 (qU.mpr m)
  ·have g':zBH ws k=some (.ref b):=by simpa [zBH,hk] using g
   have es:zGt k xs' ((k1,x)::kvs)=(k1,x)::zGt k xs' kvs:=by simp [zGt,hk]
   rw [es]
   simp only [List.map_cons,yV]
   have hc:c≠b:=λq=>by
    subst q
    rcases yV.get (k:=k) h r2 with ⟨_,q2⟩|⟨_,b',_,_,q2,_,_,q5⟩
    ·rw [g'] at q2;cases q2
    ·rw [g'] at q2;cases q2;exact hn.1 q5
   exact ⟨c,us,_,rfl,hH c _ hc e2,r1,yV.set hb hr hH h r2 hn.2 g'⟩
theorem yV.snoc (hb:H b=some (.lst us)) (hr:Reps K G xs us):∀ {l:List (List D)} {vs:List V},yV K G H l vs->yV K G H (l ++ [xs]) (vs ++ [.ref b])
 | [],_,h=>by simp only [yV] at h;subst h;simp only [List.nil_append,yV];exact ⟨b,us,[],rfl,hb,hr,rfl⟩
 |x::l,_,h=>by
  simp only [yV] at h
  obtain ⟨c,vs',t,rfl,e,r,q⟩:=h
  simp only [List.cons_append,yV]
  exact ⟨c,vs',_,rfl,e,r,yV.snoc hb hr q⟩
end
section
variable {X:Cx} {o a:Expr} {pos apos cpos:Pos} {C:Addr} {f:Str} {fe:ROd}
end
section
variable {X:Cx} {o a ke de:Expr} {pos apos cpos fpos:Pos} {C:Addr} {f:Str} {fe fk fd:ROd}
end
theorem zI3 {κ:Type} [DecidableEq κ] {α:Type} {k:κ} {x y:α}:∀ {kvs:List (κ×α)},zDc kvs k=none->zGt k y (kvs ++ [(k,x)])=kvs ++ [(k,y)]
 | [],_=>by simp [zGt]
 |q::r,h=>by
  by_cases e:q.1=k
  ·simp [zDc,e] at h
  ·have h':zDc r k=none:=by simpa [zDc,e] using h
   simp only [List.cons_append,zGt,if_neg e,zI3 h']
theorem zI4 {κ:Type} [DecidableEq κ] {k:κ} {v:V}:∀ {kvs:List (κ×V)},zBH kvs k=none->zBH (kvs ++ [(k,v)]) k=some v
 | [],_=>by simp [zBH]
 |q::r,h=>by
  by_cases e:q.1=k
  ·simp [zBH,e] at h
  ·have h':zBH r k=none:=by simpa [zBH,e] using h
   have:=zI4 (v:=v) h'
   simpa [zBH,e] using this
theorem zLX {κ:Type} {ws:List (κ×V)} {k:κ} {p:Addr}:zFR (ws ++ [(k,.ref p)])=zFR ws ++ [p]:=by
 unfold zFR
 rw [List.filterMap_append];rfl
def MAt (K:Fg) {κ:Type} (mk:List (κ×V)->HO) (G H:Hp) (b:Addr) (kvs:List (κ×List D)) (vs:List (κ×V)):Prop:=
 H b=some (mk vs)/\kvs.map (·.1)=vs.map (·.1)/\yV K G H (kvs.map (·.2)) (vs.map (·.2))/\(b::zFR vs).Nodup/\∀ p∈b::zFR vs,G p=none
def MCh (K:Fg) {κ:Type} (mk:List (κ×V)->HO) (G H:Hp) (b:Addr) (vs:List (κ×V)) (H':Hp) (kvs':List (κ×List D)) (vs':List (κ×V)):Prop:=
 MAt K mk G H' b kvs' vs'/\zu G H'/\(∀ p x,p∉b::zFR vs->H p=some x->H' p=some x)/\∀ q∈b::zFR vs',q∈b::zFR vs\/H q=none
section
variable {K:Fg} {κ:Type} {mk:List (κ×V)->HO} {G H G' H':Hp} {b b' p:Addr} {kvs:List (κ×List D)} {vs:List (κ×V)} {k:κ} {xs:List D} {us:List V}
theorem MAt.step (m:MAt K mk G H b kvs vs) (t:zg G H G' H'):MAt K mk G' H' b kvs vs:=by
 obtain ⟨m1,m2,m3,m4,m5⟩:=m
 refine ⟨t.h _ _ m1,m2,m3.same t.g λq _ o z=>t.h _ _ z,m4,λq h=>?_⟩
 cases e:G' q with
 |none=>rfl
 |some x=>
  have e:=t.f q x e (m5 q h)
  rcases List.mem_cons.mp h with h|h
  ·rw [h,m1] at e;cases e
  ·obtain ⟨o,z⟩:=m3.there q (qU.mp h);rw [e] at z;cases z
theorem MAt.new (m:MAt K mk G H b kvs vs) (s:zu G H) (hp:H p=none):MCh K mk G H b vs (upd (upd H p (.lst [])) b (mk (vs ++ [(k,.ref p)]))) (kvs ++ [(k,[])]) (vs ++ [(k,.ref p)]):=by
 obtain ⟨m1,m2,m3,m4,m5⟩:=m
 have nd:=List.nodup_cons.mp m4
 have hpb:p≠b:=λz=>by rw [z,m1] at hp;cases hp
 have hq:∀ {q:Addr} {x:HO},q≠b->H q=some x->upd (upd H p (.lst [])) b (mk (vs ++ [(k,.ref p)])) q=some x:=λn e=>by
  rw [zY n,zY (λz=>by rw [z,hp] at e;cases e)];exact e
 have hr:b::zFR (vs ++ [(k,.ref p)])=(b::zFR vs) ++ [p]:=by rw [zLX];rfl
 unfold MCh MAt
 rw [hr]
 refine ⟨⟨zR,by simp [m2],by rw [List.map_append,List.map_append];exact yV.snoc (by rw [zY hpb,zR]) Reps.nil (m3.same (zu.refl _) λq m o z=>hq (λzz=>nd.1 (zz ▸ qU.mpr m)) z),List.nodup_append.mpr ⟨m4,by simp,λx hx y hy z=>?_⟩,λq h=>?_⟩,
  λq x e=>hq (λz=>by rw [z,m5 b (List.mem_cons_self ..)] at e;cases e) (s _ _ e),λq x n e=>hq (λz=>n (z ▸ List.mem_cons_self ..)) e,λq h=>?_⟩
 ·cases List.mem_singleton.mp hy
  subst z
  rcases List.mem_cons.mp hx with z|hx
  ·exact hpb z
  ·obtain ⟨o,e⟩:=m3.there _ (qU.mp hx);rw [hp] at e;cases e
 ·rcases List.mem_append.mp h with h|h
  ·exact m5 q h
  ·cases List.mem_singleton.mp h;exact s.free hp
 ·rcases List.mem_append.mp h with h|h
  ·exact .inl h
  ·cases List.mem_singleton.mp h;exact .inr hp
variable [DecidableEq κ]
theorem MAt.put (m:MAt K mk G H b kvs vs) (s:zu G H) (g:zBH vs k=some (.ref b')) (r:Reps K G xs us):MCh K mk G H b vs (upd H b' (.lst us)) (zGt k xs kvs) vs:=by
 obtain ⟨m1,m2,m3,m4,m5⟩:=m
 have nd:=List.nodup_cons.mp m4
 have g5:b'∈zFR vs:=by
  rcases yV.get (k:=k) m2 m3 with ⟨_,q⟩|⟨_,_,_,_,q,_,_,g5⟩<;>rw [g] at q<;>cases q
  exact g5
 have g6:=List.mem_cons_of_mem b g5
 exact ⟨⟨(zY λz=>nd.1 (by rw [z];exact g5)).trans m1,by rw [zHL];exact m2,yV.set zR r (λq x np e=>(zY np).trans e) m2 m3 nd.2 g,m4,m5⟩,
  λq x e=>(zY λz=>by rw [z,m5 _ g6] at e;cases e).trans (s _ _ e),λq x np e=>(zY λz=>np (by rw [z];exact g6)).trans e,λq h=>.inl h⟩
theorem MAt.gone (m:MAt K mk G H b kvs vs) (g:zDc kvs k=none) (hl:kvs.length<1000000):zBH vs k=none/\vs.length<sizeLine:=by
 constructor
 ·rcases yV.get (k:=k) m.2.1 m.2.2.1 with ⟨_,q⟩|⟨_,_,_,q,_⟩
  ·exact q
  ·rw [g] at q;cases q
 ·have:=congrArg List.length m.2.1
  simp only [List.length_map] at this
  rw [<- this];exact Nat.lt_of_lt_of_le hl (by decide)
end
section
variable {K:Fg} {G0 H0 G H H':Hp} {ρ:Rho} {σ:L2.St} {i:Nat} {c:Option Addr} {C a dx b:Addr} {f:Str} {fs:List (Str×Fl)} {ws:List (Str×V)} {kvs kvs':List (List Key×List D)} {vs vs':List (List Key×V)}
end
section
variable {X:Cx} {o a ke:Expr} {pos apos cpos fpos:Pos} {C:Addr} {f:Str} {fe fk:ROd}
end
structure Chg (K:Fg) (G H G' H':Hp) (x x':Ob) (a:Addr):Prop where
 g:zu G G'
 gh:zu G' H'
 fr:∀ b o,G' b=some o->G b=none->H b=none\/b∈fpO H x a
 h:∀ b o,H b=some o->b∉fpO H x a->H' b=some o
 at_:At K G' H' x' a
 new:∀ c∈fpO H' x' a,c∈fpO H x a\/H c=none
section
variable {K:Fg} {G H:Hp} {a:Addr} {x:Ob} {ds:List D} {ws:List V} {m:Nat} {τ:L2.St}
end
section
variable {X:Cx} {o e a b:Expr} {es:List Expr} {pos pos' apos p1 p2:Pos} {C:Addr} {m:Str} {i k n:Nat} {F:Ob->List D->Option Ob} {fl:ROl} {f g:ROd}
end
section
variable {X:Cx} {e:Expr} {es:List Expr} {pos p cpos:Pos} {fl:ROl}
def zNe (i:Nat):ROo:=λρ=>(ρ[i]?).bind λs=>if s.isOwn=true then some (.ro s) else none
theorem zLY (i:Nat) (he:PE X e (zDq i)):SS X (.Return (some e) pos) (zNe i):=qN (zIo he) λQ σ H=>by
 rintro ⟨G0,H0,G,ρ,o,st,ef,k⟩
 obtain ⟨s,e1,ef⟩:=Option.bind_eq_some_iff.mp ef
 split at ef
 ·rename_i ho
  cases ef
  obtain ⟨a,q1,q2,q3⟩:=st.er.slot i s e1 (Sl.obj_of_own ho)
  exact ⟨_,q1,k a G H st.bs q2 λc m=>⟨q3 c m,st.ows i s a e1 ho q1 c m⟩⟩
 ·cases ef
end
def RetS (K:Fg) (G' H' H:Hp) (s:Sl) (v:V):Prop:=(∃ d,s = .v d/\Rep K G' d v)\/(s.isOwn=true/\∃ a,v = .ref a/\zKI K G' H' s a/\∀ c∈fpS H' s a,H c=none/\G' c=none)
theorem StR.setRet {K:Fg} {G0 H0 G H G' H':Hp} {ρ:Rho} {σ:L2.St} {i:Nat} {s:Sl} {v:V} (st:StR K G0 H0 G H ρ σ) (t:zg G H G' H') (r:RetS K G' H' H s v):StR K G0 H0 G' H' (ρ.set i s) (σ.set i (some v)):=by
 rcases r with ⟨d,rfl,r⟩|⟨ho,a,rfl,r,n⟩
 ·exact (st.step t).setV r
 ·exact st.setNew t ho r n
def spR (K:Fg) (f:List D->Option Sl) (n:Nat):Sp:=λvs H Q _=>∃ G ds s,zu G H/\Reps K G ds vs/\ds.length=n/\f ds=some s/\∀ v G' H',zg G H G' H'->RetS K G' H' H s v->Q v H'
def outS:Out->Option Sl
 |.rt d=>some (.v d)
 |.ro s=>if s.isOwn=true then some s else none
 |.nx _=>some (.v .non)
 |_=>none
def zSn (N:List Str) (F:ROo) (ds:List D):Option Sl:=(F (ds.map Sl.v++List.replicate (N.length-ds.length) .un)).bind outS
theorem zLZ {N:List Str} {ds:List D} {i:Nat} {u:Sl} (h:(ds.map Sl.v++List.replicate (N.length-ds.length) Sl.un)[i]?=some u) (o:u.isOwn=true):False:=by
 rcases List.mem_append.mp (List.mem_of_getElem? h) with q|q
 ·obtain ⟨d',_,rfl⟩:=List.mem_map.mp q;cases o
 ·rw [(List.mem_replicate.mp q).2] at o;cases o
theorem zPB {P:Program} {w:World} {K:Fg} {mg:MGt} {base:Heap} {x qual:Str} {st:Stmt} {fa:Addr} {fd:FuncData} {N ps:List Str} {k:Nat} {F:ROo} {f:List D->Option Sl}
  (FF:Fun K x qual st fa fd) (S:zZ N ps (zI st))
  (hbody:∀ (cdv:Value) (A:Around) (outer:List Env) (s:Shared) (H:Hp),zBn k (A.deeper (envOfC qual (zI st) s.heap.objs.size fa cdv))->SSs (zHy CX0 P w K mg base N qual (zI st) fa cdv A outer s H E0).nox (ye st) F)
  (hf:∀ ds d,ds.length=ps.length->f ds=some d->zSn N F ds=some d):zF8 P w K mg base CX0 (k+1) fa fd ps (spR K f ps.length):=by
 refine FF.ok S (λvs H Q E h=>?_) (λcdv A outer s H vs Q E hr h=>?_)
 ·obtain ⟨G,ds,d,_,r,hn,_⟩:=h
  rw [<- r.length,hn]
 ·obtain ⟨G,ds,d,sm,r,hn,ef,kk⟩:=h
  have h1:SSs (zHy CX0 P w K mg base N qual (zI st) fa cdv A outer s H E).nox (ye st) F:=hbody cdv A outer s H hr
  refine ⟨_,h1,?_⟩
  obtain ⟨o,e1,e2⟩:=Option.bind_eq_some_iff.mp (hf ds d hn ef)
  have er:=zGE (N:=N) (H:=H) r
  refine ⟨G,H,G,_,o,⟨er,⟨sm,zu.refl _,zu.refl _,λb o e n=>by rw [e] at n;cases n⟩,λi u a h1 h2 h3=>(zLZ h1 h2).elim⟩,e1,?_⟩
  cases o with
  |rt d'=>
   cases e2
   exact λv G' H' b r'=>kk v G' H' ⟨b.gg,b.hh,b.gh,b.fr⟩ (.inl ⟨_,rfl,r'⟩)
  |nx ρ=>
   cases e2
   exact λσ' G' H' st'=>kk .non G' H' ⟨st'.bs.gg,st'.bs.hh,st'.bs.gh,st'.bs.fr⟩ (.inl ⟨_,rfl,zBM.mpr rfl⟩)
  |ro s'=>
   simp only [outS] at e2
   split at e2
   ·rename_i ho
    cases e2
    exact λa G' H' b r' n=>kk _ G' H' ⟨b.gg,b.hh,b.gh,b.fr⟩ (.inr ⟨ho,a,rfl,r',λc m=>⟨(n c m).2,(n c m).1⟩⟩)
   ·cases e2
  |bk ρ=>cases e2
  |ct ρ=>cases e2
  |rm d ρ=>cases e2
structure zSo (P:Program) (w:World) (K:Fg) (mg:MGt) (base:Heap) (k:Nat) (x:Str) (n:Nat) (F:List D->Option Sl):Prop where
 ex:∃ f fd ps,zF8 P w K mg base CX0 k f fd ps (spR K F n)/\mg x=some (.ref f)/\PySem.W.keepIn K (.ref f)=true/\L2.zD8 K fd ps []
section
variable {X:Cx} {e:Expr} {es:List Expr} {pos p cpos:Pos} {fl:ROl} {k n:Nat} {F:List D->Option Sl} {x y:Str}
def zGM (i:Nat) (fl:ROl) (F:List D->Option Sl):ROo:=λρ=>(fl ρ).bind λds=>(F ds).map λs=>.nx (ρ.set i s)
theorem zLa (i:Nat) (h:zSo X.prog X.w X.K X.mg X.base k x n F) (hr:zBn k X.A) (hg:X.env.kindOf x=some .globalImplicit) (hn:(e::es).length=n) (ha:SA X (e::es) fl) (hN:X.N.Nodup) (hi:X.N[i]?=some y) (hy:Loc X.env.scope y) (hs:zGB X (.Call (.Name x p) (e::es) [] cpos) (some (.Name y pos')) pos:=by rfl) (hf:fnL X y:=by first|exact .inl rfl|exact .inr rfl|assumption) (hdb:nDb x:=by decide) (he:stE X e es:=by rfl) (hpl:zDv X cpos es:=by rfl) :
  SS X (.Assign [.Name y pos'] (.Call (.Name x p) (e::es) [] cpos) pos) (zGM i fl F):=by
 obtain ⟨f,fd,ps,FO,hm,hk,hb⟩:=h.ex
 refine qN (zCM hN hi hy (zEZ (E:=E0) FO hr hg hm hk hb .nil zPz ha.pa hdb he hpl) hs hf) λE σ H zz=>?_
 obtain ⟨G0,H0,G,ρ,o,st,ef,kk⟩:=zz
 obtain ⟨ds,e1,ef⟩:=Option.bind_eq_some_iff.mp ef
 obtain ⟨s,e2,rfl⟩:=Option.map_eq_some_iff.mp ef
 refine ⟨G,ρ,ds,st.bs.gh,st.er,e1,λvs G1 H1 t1 r1=>?_⟩
 show spR X.K F n (vs ++ []) H1 _ E0
 rw [List.append_nil]
 exact ⟨G1,ds,s,t1.s,r1,by rw [ha.len _ _ e1,hn],e2,λv G' H' t r=>kk _ G' H' ((st.step t1).setRet t r)⟩
end
def zQX {κ:Type} [DecidableEq κ] {α:Type} (kvs:List (κ×α)) (k:κ) (v:α):List (κ×α):=if (kvs.any λkv=>decide (kv.1=k))=true then kvs.map (λkv=>if kv.1=k then (kv.1,v) else kv) else kvs ++ [(k,v)]
section
variable {K:Fg} {G H:Hp} {κ:Type} [DecidableEq κ]
theorem zGN {k:κ}:∀ {kvs:List (κ×D)} {ws:List (κ×V)},kvs.map (·.1)=ws.map (·.1)->Reps K G (kvs.map (·.2)) (ws.map (·.2))->(zDc kvs k=none/\zBH ws k=none)\/∃ d v,zDc kvs k=some d/\zBH ws k=some v/\Rep K G d v
 | [],[],_,_=>.inl ⟨rfl,rfl⟩
 | [],_::_,h,_=>by cases h
 |_::_,[],h,_=>by cases h
 |(k1,x)::kvs,(k2,w)::ws,h,r=>by
  simp only [List.map_cons,List.cons.injEq] at h
  obtain ⟨rfl,h⟩:=h
  obtain ⟨r1,r2⟩:=Reps.inv r
  by_cases hk:k1=k
  ·right
   exact ⟨x,w,by simp [zDc,hk],by simp [zBH,hk],r1⟩
  ·rcases zGN (k:=k) h r2 with ⟨q1,q2⟩|⟨d,v,q1,q2,q3⟩
   ·left
    exact ⟨by simpa [zDc,hk] using q1,by simpa [zBH,hk] using q2⟩
   ·right
    exact ⟨d,v,by simpa [zDc,hk] using q1,by simpa [zBH,hk] using q2,q3⟩
theorem zI5 {α β:Type}:∀ {kvs:List (κ×α)} {ws:List (κ×β)},kvs.map (·.1)=ws.map (·.1)->(kvs.any λkv=>decide (kv.1=k))=ws.any λkv=>decide (kv.1=k)
 | [],[],_=>rfl
 | [],_::_,h=>by cases h
 |_::_,[],h=>by cases h
 |(k1,x)::kvs,(k2,w)::ws,h=>by
  simp only [List.map_cons,List.cons.injEq] at h
  obtain ⟨rfl,h⟩:=h
  simp only [List.any_cons,zI5 h]
theorem zHM (r:Rep K G d v):∀ {kvs:List (κ×D)} {ws:List (κ×V)},kvs.map (·.1)=ws.map (·.1)->Reps K G (kvs.map (·.2)) (ws.map (·.2)) ->
  (kvs.map λkv=>if kv.1=k then (kv.1,d) else kv).map (·.1)=(ws.map λkv=>if kv.1=k then (kv.1,v) else kv).map (·.1)/\Reps K G ((kvs.map λkv=>if kv.1=k then (kv.1,d) else kv).map (·.2)) ((ws.map λkv=>if kv.1=k then (kv.1,v) else kv).map (·.2))
 | [],[],_,_=>⟨rfl,Reps.nil⟩
 | [],_::_,h,_=>by cases h
 |_::_,[],h,_=>by cases h
 |(k1,x)::kvs,(k2,w)::ws,h,q=>by
  simp only [List.map_cons,List.cons.injEq] at h
  obtain ⟨rfl,h⟩:=h
  obtain ⟨r1,r2⟩:=Reps.inv q
  obtain ⟨i1,i2⟩:=zHM r h r2
  by_cases hk:k1=k
  ·simp only [List.map_cons,hk,if_true]
   exact ⟨by rw [i1],Reps.cons r i2⟩
  ·simp only [List.map_cons,hk,if_false]
   exact ⟨by rw [i1],Reps.cons r1 i2⟩
theorem zNf {k:κ} {d:D} {v:V} (r:Rep K G d v) {kvs:List (κ×D)} {ws:List (κ×V)} (h:kvs.map (·.1)=ws.map (·.1)) (q:Reps K G (kvs.map (·.2)) (ws.map (·.2))) :
  (zQX kvs k d).map (·.1)=(zFP ws k v).map (·.1)/\Reps K G ((zQX kvs k d).map (·.2)) ((zFP ws k v).map (·.2)):=by
 unfold zQX zFP
 rw [zI5 h]
 split
 ·exact zHM r h q
 ·rw [List.map_append,List.map_append,List.map_append,List.map_append]
  exact ⟨by rw [h];rfl,q.append (Reps.cons r Reps.nil)⟩
end
def gT' (ρ:Rho) (i:Nat):Option (List (List Key×D)):=match ρ[i]? with
 |some (.o _ (.p (.t kvs)))=>some kvs
 |_=>none
theorem zQY {ρ:Rho} {i:Nat} {kvs:List (List Key×D)} (h:gT' ρ i=some kvs):∃ c,ρ[i]?=some (.o c (.p (.t kvs))):=by
 unfold gT' at h
 split at h
 ·rename_i c l q;cases h;exact ⟨c,q⟩
 ·cases h
theorem t_at {K:Fg} {G H:Hp} {ρ:Rho} {σ:L2.St} {i:Nat} {c:Option Addr} {kvs:List (List Key×D)} (e:Er K G H ρ σ) (h:ρ[i]?=some (.o c (.p (.t kvs)))):∃ a ws,σ[i]?=some (some (.ref a))/\G a=none/\H a=some (.dT ws)/\kvs.map (·.1)=ws.map (·.1)/\Reps K G (kvs.map (·.2)) (ws.map (·.2))/\∀ c',c=some c'->a=c':=by
 obtain ⟨a,q1,q2,q3⟩:=e.slot i _ h rfl
 obtain ⟨ws,z1,z2,z3⟩:=q2.1.1
 exact ⟨a,ws,q1,q3 a (List.mem_singleton.mpr rfl),z1,z2,z3,q2.2⟩
section
variable {X:Cx} {o a b ke:Expr} {pos pos' tpos:Pos} {i:Nat} {f fk:ROd} {x:Str}
def tGet (i:Nat) (fk:ROd):ROd:=λρ=>(gT' ρ i).bind λkvs=>(fk ρ).bind λd=>(zRr d).bind λk=>zDc kvs k
theorem zQZ (hu:X.A.units+1<cLine) (i:Nat) (ho:PE X o (zDq i)) (hk:SE X ke fk) (hs:NoSl ke:=by intro _ _;rfl):SE X (.Subscript o ke pos) (tGet i fk):=zBo (zKn hu ho hk hs) λσ H Q=>by
 rintro ⟨G,ρ,d,s,er,ef,k⟩
 obtain ⟨kvs,e1,ef⟩:=Option.bind_eq_some_iff.mp ef
 obtain ⟨dk,e2,ef⟩:=Option.bind_eq_some_iff.mp ef
 obtain ⟨key,e3,e4⟩:=Option.bind_eq_some_iff.mp ef
 obtain ⟨c,e1⟩:=zQY e1
 obtain ⟨a,ws,q1,q2,q3,q4,q5,_⟩:=t_at er e1
 refine ⟨_,q1,G,ρ,dk,s,er,e2,λv G' H' t r=>?_⟩
 obtain ⟨kb,rfl,hkb⟩:=zEK e3 r
 rcases zGN (k:=key) q4 (Reps.mono t.g _ _ q5) with ⟨z,_⟩|⟨d',v',z1,z2,z3⟩
 ·rw [e4] at z;cases z
 ·rw [e4] at z1;cases z1
  exact ⟨a,v',rfl,by rw [<- z2];exact zFQ.t (t.h _ _ q3) (t.s _ _ hkb),k _ G' H' t z3⟩
def zSp (i:Nat) (fk:ROd):ROb:=λρ=>(fk ρ).bind λd=>(gT' ρ i).bind λkvs=>(zRr d).map λk=>!(zDc kvs k).isSome
theorem zQa (hu:X.A.units+1<cLine) (i:Nat) (ho:PE X o (zDq i)) (hk:SE X ke fk) (hm:behindInMarks .NotIn o=false:=by rfl):SB X (.Compare ke [.NotIn] [o] pos) (zSp i fk):=
 zH3 (zOj (zKo hu hk ho) hm) λσ H Q=>by
  rintro ⟨G,ρ,bb,s,er,ef,k⟩
  obtain ⟨dk,e2,ef⟩:=Option.bind_eq_some_iff.mp ef
  obtain ⟨kvs,e1,ef⟩:=Option.bind_eq_some_iff.mp ef
  obtain ⟨key,e3,rfl⟩:=Option.map_eq_some_iff.mp ef
  obtain ⟨c,e1⟩:=zQY e1
  refine ⟨G,ρ,dk,s,er,e2,λv G' H' t r=>?_⟩
  obtain ⟨kb,rfl,hkb⟩:=zEK e3 r
  obtain ⟨a,ws,q1,q2,q3,q4,q5,_⟩:=t_at (er.step t) e1
  refine ⟨_,q1,a,_,rfl,zFQ.t q3 (t.s _ _ hkb),_,rfl,?_⟩
  rcases zGN (k:=key) q4 q5 with ⟨z,z'⟩|⟨d',v',z1,z2,z3⟩
  ·rw [z'];have:=k G' H' t;rw [z] at this;exact this
  ·rw [z2];have:=k G' H' t;rw [z1] at this;exact this
def zNg (i:Nat) (fk f:ROd):ROo:=λρ=>(f ρ).bind λd=>(gT' ρ i).bind λkvs=>(fk ρ).bind λdk=>(zRr dk).bind λk=>if kvs.length<16000000 then some (.nx (ρ.set i (.o none (.p (.t (zQX kvs k d)))))) else none
theorem zQb (hu:X.A.units+1<cLine) (i:Nat) (ho:PE X o (zDq i)) (hk:SE X ke fk) (ha:SE X a f) (hs:zGB X a (some (.Subscript o ke tpos)) pos:=by rfl) :
  SS X (.Assign [.Subscript o ke tpos] a pos) (zNg i fk f):=
 qN (zKp hu ho hk ha hs) λE σ H=>by
  rintro ⟨G0,H0,G,ρ,o,st,ef,k⟩
  obtain ⟨d,e1,ef⟩:=Option.bind_eq_some_iff.mp ef
  obtain ⟨kvs,e2,ef⟩:=Option.bind_eq_some_iff.mp ef
  obtain ⟨dk,e3,ef⟩:=Option.bind_eq_some_iff.mp ef
  obtain ⟨key,e4,ef⟩:=Option.bind_eq_some_iff.mp ef
  split at ef
  ·rename_i hl
   cases ef
   obtain ⟨c,e2⟩:=zQY e2
   refine ⟨G,ρ,d,st.bs.gh,st.er,e1,λv G1 H1 t1 r1=>?_⟩
   obtain ⟨a1,ws,q1,q2,q3,q4,q5,_⟩:=t_at (st.step t1).er e2
   refine ⟨_,q1,G1,ρ,dk,t1.s,st.er.step t1,e3,λv2 G2 H2 t2 r2=>?_⟩
   have st':=(st.step t1).step t2
   obtain ⟨a2,ws2,w1,w2,w3,w4,w5,w6⟩:=t_at st'.er e2
   rw [q1] at w1;cases w1
   obtain ⟨kb,rfl,hkb⟩:=zEK e4 r2
   have hlen:ws2.length<sizeLine:=by
    have:=congrArg List.length w4
    simp only [List.length_map] at this
    rw [<- this];exact Nat.lt_of_lt_of_le hl (by decide)
   obtain ⟨p1,p2⟩:=zNf (k:=key) (Rep.mono t2.g _ _ r1) w4 w5
   refine ⟨a1,_,rfl,zM4.t w3 (t2.s _ _ hkb) hlen,k σ G2 _ (st'.mutG (u:=.o c (.p (.t kvs))) (w:=.o none (.p (.t (zQX kvs key d)))) e2 rfl rfl q1 (zu.refl _) (λb x e=>?_) (λb x e n=>by rw [n] at e;cases e) (λb x e n=>?_) ⟨⟨⟨_,zR,p1,p2⟩,by simp [fpO,fpF]⟩,λ_ z=>by cases z⟩ λp m=>?_)⟩
   ·rw [zY (λz=>by rw [z,w2] at e;cases e)];exact t2.s _ _ e
   ·rw [zY (λz=>n (List.mem_singleton.mpr z))];exact e
   ·cases List.mem_singleton.mp m;exact ⟨.inl (List.mem_singleton.mpr rfl),w2⟩
  ·cases ef
def zQc (tk tv:TE):TE:=λσ H Q=>∀ p,H p=none->tk σ (upd H p (.dT [])) λx H1=>tv σ H1 λy H2=>∃ kb ks,x = .ref kb/\H2 kb=some (.tup (ks.map kV))/\H2 p=some (.dT [])/\Q (.ref p) (upd H2 p (.dT [(ks,y)]))
theorem zLb (hu:X.A.units+1<cLine) (hk:PE X ke tk) (hv:PE X a tv):PE X (.Dict [some ke] [a] pos) (zQc tk tv):=by
 intro pins s σ H Q I q
 have hn:=I.hok.fresh (Nat.le_refl s.heap.objs.size)
 have I1:=I.laid (a:=s.heap.objs.size) (o:=.dT []) (h':=s.heap.push { cls:=.type "dict",data:=.dict #[] }) (t':=s.toks) (λ_ _ q=>Heap.get?_push_of_some _ q) (Nat.le_refl _) (zNH s.heap I.big)
 refine wpAny_Dict_any rfl rfl (by simp) (by simp) (pairTrees_cons_walk (thn (hk pins _ σ _ _ I1 (q _ hn)) λu s1 ⟨x,H1,I1,rx,q1⟩=>thn (hv pins s1 σ H1 _ I1 q1) λw2 s2 ⟨y,H2,I2,ry,kb,ks,ex,ek,ed,q2⟩=>pairTrees_nil_walk ?_))
 subst ex
 cases rx
 obtain ⟨z,hd,xs,rel,dd⟩:=zPv I2.hok ed
 cases rel
 unfold storeAll
 simp only [List.forIn_cons,List.forIn_nil]
 refine wpAny_bind (wpAny_bind (wpAny_dictSet_heap (knd:=tupleKind (yP X.prog X.w)) (show X.A.units<cLine by omega) (zDu I2.hok ek) dd (λh' dd' hs=>wpAny_pure (wpAny_pure ?_)) (Nat.zero_le _)))
 obtain ⟨qq,es,ep,hq,h2,h3,h4,_,h5⟩:=dd'
 refine ⟨.ref s.heap.objs.size,_,?_,rfl,q2⟩
 refine zEc (ob:=.dT [(ks,y)]) I2 (by rw [ed];exact True.intro) hs ⟨qq,hq⟩ ⟨by rw [List.length_singleton,sizeLine_eq];omega,hd,[(ks,kb,w2)],.cons ⟨rfl,?_,ry⟩ .nil,qq,es,ep,hq,h2,h3,h4,h5⟩
 show upd H2 s.heap.objs.size _ kb=_
 rw [zY (zPa ek ed (λz=>nomatch z))]
 exact ek
def zJw (i:Nat) (fk f:ROd):ROo:=λρ=>(fk ρ).bind λdk=>(f ρ).bind λd=>(zRr dk).map λk=>.nx (ρ.set i (.o none (.p (.t [(k,d)]))))
theorem zQd (hu:X.A.units+1<cLine) (i:Nat) (hk:SE X ke fk) (ha:SE X a f) (hN:X.N.Nodup) (hi:X.N[i]?=some x) (hx:Loc X.env.scope x) (hs:zGB X (.Dict [some ke] [a] p1) (some (.Name x pos')) pos:=by rfl) (hf:fnL X x:=by first|exact .inl rfl|exact .inr rfl|assumption):SS X (.Assign [.Name x pos'] (.Dict [some ke] [a] p1) pos) (zJw i fk f):=
 qN (zCM hN hi hx (zLb hu hk ha) hs hf) λQ σ H=>by
  rintro ⟨G0,H0,G,ρ,o,st,ef,k⟩
  obtain ⟨dk,e1,ef⟩:=Option.bind_eq_some_iff.mp ef
  obtain ⟨d,e2,ef⟩:=Option.bind_eq_some_iff.mp ef
  obtain ⟨key,e3,rfl⟩:=Option.map_eq_some_iff.mp ef
  intro p hp
  have t0:zg G H G (upd H p (.dT [])):=zg.newH st.bs.gh hp
  refine ⟨G,ρ,dk,t0.s,st.er.step t0,e1,λv1 G1 H1 t1 r1=>?_⟩
  refine ⟨G1,ρ,d,t1.s,(st.er.step t0).step t1,e2,λv2 G2 H2 t2 r2=>?_⟩
  obtain ⟨kb,rfl,hkb⟩:=zEK e3 r1
  have tt:=t1.trans t2
  have ep:H2 p=some (.dT []):=tt.h _ _ zR
  have gp:G2 p=none:=by
   cases q:G2 p with
   |none=>rfl
   |some o=>have:=tt.f p o q (st.bs.gh.free hp);rw [zR] at this;cases this
  refine ⟨kb,key,rfl,t2.h _ _ (t1.s _ _ hkb),ep,?_⟩
  have t3:zg G H G2 (upd H2 p (.dT [(key,v2)])):=⟨tt.g,λb u e=>by
    rw [zY (qR e hp)];exact (t0.trans tt).h _ _ e,λb u e=>by
    rw [zY (λz=>by rw [z,gp] at e;cases e)];exact t2.s _ _ e,(t0.trans tt).f⟩
  exact k _ G2 _ (st.setNew t3 (w:=.o none (.p (.t [(key,d)]))) rfl ⟨⟨⟨_,zR,rfl,Reps.cons r2 Reps.nil⟩,by simp [fpO,fpF]⟩,λ_ z=>by cases z⟩ λc m=>by
   cases List.mem_singleton.mp m;exact ⟨hp,gp⟩)
end
def gML (ρ:Rho) (i:Nat):Option (List (Key×List D)):=match ρ[i]? with
 |some (.o _ (.p (.ml kvs)))=>some kvs
 |_=>none
theorem zLc {ρ:Rho} (h:gML ρ i=some kvs):∃ c,ρ[i]?=some (.o c (.p (.ml kvs))):=by
 unfold gML at h
 split at h
 ·rename_i c l q;cases h;exact ⟨c,q⟩
 ·cases h
section
variable {K:Fg} {G0 H0 G H H':Hp} {ρ:Rho} {σ:L2.St} {i:Nat} {c:Option Addr} {b:Addr} {kvs kvs':List (Key×List D)} {vs vs':List (Key×V)}
theorem zLd (h:H b=some (.dK vs)):fpS H (.o c (.p (.ml kvs))) b=b::zFR vs:=by simp only [fpS,fpO,fpF];rw [h];rfl
theorem zNh (e:Er K G H ρ σ) (h:ρ[i]?=some (.o c (.p (.ml kvs)))):∃ a ws,σ[i]?=some (some (.ref a))/\MAt K .dK G H a kvs ws:=by
 obtain ⟨a,q1,⟨⟨⟨ws,z1,z2,z3⟩,nd⟩,_⟩,q3⟩:=e.slot i _ h rfl
 have nd:(fpS H (.o c (.p (.ml kvs))) a).Nodup:=nd
 rw [zLd z1] at nd q3
 exact ⟨a,ws,q1,z1,z2,z3,nd,q3⟩
theorem StR.chM (s:StR K G0 H0 G H ρ σ) (hu:ρ[i]?=some (.o c (.p (.ml kvs)))) (q1:σ[i]?=some (some (.ref b))) (m:MAt K .dK G H b kvs vs) (h:MCh K .dK G H b vs H' kvs' vs'):StR K G0 H0 G H' (ρ.set i (.o none (.p (.ml kvs')))) σ:=by
 obtain ⟨⟨z1,z2,z3,z4,z5⟩,c2,c3,c4⟩:=h
 have nd:(fpS H' (.o none (.p (.ml kvs'))) b).Nodup:=by rw [zLd z1];exact z4
 exact s.mutG hu rfl rfl q1 (zu.refl _) c2 (λq x e n=>by rw [n] at e;cases e) (by rw [zLd m.1];exact λq x e n=>c3 q x n e) ⟨⟨⟨vs',z1,z2,z3⟩,nd⟩,λ_ z=>by cases z⟩ (by rw [zLd m.1,zLd z1];exact λq h=>⟨c4 q h,z5 q h⟩)
end
section
variable {X:Cx} {o a b ke e:Expr} {pos pos' p1:Pos} {i:Nat} {f fk:ROd} {x:Str}
def zLe (i:Nat):ROo:=λρ=>some (.nx (ρ.set i (.o none (.p (.ml [])))))
theorem zNi (i:Nat) (hN:X.N.Nodup) (hi:X.N[i]?=some x) (hx:Loc X.env.scope x) (hs:zGB X (.Dict [] [] p1) (some (.Name x pos')) pos:=by rfl)
  (hf:fnL X x:=by first|exact .inl rfl|exact .inr rfl|assumption):SS X (.Assign [.Name x pos'] (.Dict [] [] p1) pos) (zLe i):=
 qN (zCM hN hi hx zIt hs hf) λQ σ H=>by
  rintro ⟨G0,H0,G,ρ,o,st,ef,k⟩
  cases ef
  intro p hp
  exact k _ G _ (st.setNew (zg.newH st.bs.gh hp) (w:=.o none (.p (.ml []))) rfl ⟨⟨⟨_,zR,rfl,rfl⟩,by simp [fpO,fpF,zR,inK,zFR]⟩,λ_ z=>by cases z⟩ λc m=>by
   have:c=p:=by simpa [fpS,fpO,fpF,zR,inK,zFR] using m
   subst this;exact ⟨hp,st.bs.gh.free hp⟩)
def zLf (i:Nat):ROl:=λρ=>(gML ρ i).bind λkvs=>zEk (.lst (kvs.map λq=>zKM q.1))
theorem zLg (i:Nat) (hcalm:X.calm=true) (hg:Gl X "sorted") (hm:X.mg "sorted" = none) (ho:PE X e (zDq i))
  (hs:stE X e []:=by rfl) (hpl:zDv X pos []:=by rfl):SF X (.Call (.Name "sorted" p1) [e] [] pos) (zLf i):=
 zBo (zAJ (zC4 hcalm) hg hm zBQ (zt ho yp hs) (by decide) (by decide) hs hpl) λσ H Q=>by
  rintro ⟨G,ρ,ys,s,er,ef,k⟩
  obtain ⟨kvs,e1,e2⟩:=Option.bind_eq_some_iff.mp ef
  obtain ⟨c,e1⟩:=zLc e1
  obtain ⟨a,ws,q1,q3,q4,_⟩:=zNh er e1
  refine ⟨_,q1,a,ws,ys,rfl,q3,?_,λl us hl r=>?_⟩
  ·rw [<- e2]
   have z:(ws.map λq=>zKM q.1)=(kvs.map λq=>zKM q.1):=by
    have:=congrArg (List.map zKM) q4
    rw [List.map_map,List.map_map] at this
    exact this.symm
   rw [z]
  ·exact k l us G _ (zg.newH s hl) hl (s.free hl) zR (r _ _)
def zQe (i:Nat) (fk:ROd):ROd:=λρ=>(gML ρ i).bind λkvs=>(fk ρ).bind λd=>(zGs d).bind λk=>(zDc kvs k).map .lst
theorem zNj (hu:X.A.units+1<cLine) (i:Nat) (ho:PE X o (zDq i)) (hk:SE X ke fk) (hs:NoSl ke:=by intro _ _;rfl):SR X (.Subscript o ke pos) (zQe i fk):=zBo (zKn hu ho hk hs) λσ H Q=>by
 rintro ⟨G,ρ,d,s,er,ef,k⟩
 obtain ⟨kvs,e1,ef⟩:=Option.bind_eq_some_iff.mp ef
 obtain ⟨dk,e2,ef⟩:=Option.bind_eq_some_iff.mp ef
 obtain ⟨key,e3,ef⟩:=Option.bind_eq_some_iff.mp ef
 obtain ⟨xs,e4,rfl⟩:=Option.map_eq_some_iff.mp ef
 obtain ⟨c,e1⟩:=zLc e1
 obtain ⟨a,ws,q1,q3,_⟩:=zNh er e1
 refine ⟨_,q1,G,ρ,dk,s,er,e2,λv G' H' t r=>?_⟩
 have ev:=zDb e3 r
 subst ev
 obtain ⟨a2,ws2,w1,w3,w4,w5,w6,w7⟩:=zNh (er.step t) e1
 rw [q1] at w1;cases w1
 rcases yV.get (k:=key) w4 w5 with ⟨z,_⟩|⟨xs',b',us,g1,g2,g3,g4,g5⟩
 ·rw [e4] at z;cases z
 ·rw [e4] at g1;cases g1
  exact ⟨a,.ref b',rfl,by rw [<- g2];exact zFQ.k (k:=key) w3,k _ G' H' t (.ow (w7 b' (List.mem_cons_of_mem _ g5)) g3 g4)⟩
end
section
variable {X:Cx} {o a ke:Expr} {pos apos cpos:Pos} {fe fk:ROd}
def zI6 (i:Nat) (fk fe:ROd):ROo:=λρ=>(gML ρ i).bind λkvs=>(fk ρ).bind λkd=>(zGs kd).bind λk=>match zDc kvs k with
  |some xs=>if xs.length<1000000 then (fe ρ).map λd=>.nx (ρ.set i (.o none (.p (.ml (zGt k (xs ++ [d]) kvs))))) else none
  |none=>if kvs.length<1000000 then (fe (ρ.set i (.o none (.p (.ml (kvs ++ [(k,[])])))))).map λd=>.nx (ρ.set i (.o none (.p (.ml (kvs ++ [(k,[d])]))))) else none
theorem zNk (i:Nat) (hu:X.A.units+1<cLine) (ho:PE X o (zDq i)) (hk:SE X ke fk) (ha:SE X a fe) (hbase1:bsA X o "setdefault":=by rfl) (hfew1:zP0 X dp [ke,.List [] lp]:=by rfl) (hline1:smL sp dp:=by rfl) (hs1:stE X ke [.List [] lp]:=by rfl) (hs2:stE X (.List [] lp) []:=by rfl) (hplain1:zDv X dp [.List [] lp]:=by rfl) (hbase:bsA X (.Call (.Attribute o "setdefault" sp) [ke,.List [] lp] [] dp) "append":=by rfl) (hfew:zP0 X cpos [a]:=by rfl) (hline:smL apos cpos:=by rfl) (hs:stE X a []:=by rfl) (hplain:zDv X cpos []:=by rfl) (hsw:zGB X (.Call (.Attribute (.Call (.Attribute o "setdefault" sp) [ke,.List [] lp] [] dp) "append" apos) [a] [] cpos) none pos:=by rfl) :
  SS X (.Expr (.Call (.Attribute (.Call (.Attribute o "setdefault" sp) [ke,.List [] lp] [] dp) "append" apos) [a] [] cpos) pos) (zI6 i fk fe):=
 qN (zEX (zH0 PySem.F.plainAttrs_list PySem.F.slot_list_append PySem.F.type_list_append zCu
     (zH0 PySem.F.plainAttrs_dict PySem.F.slot_dict_setdefault PySem.F.type_dict_setdefault (zGL hu) ho (zt hk (zt (zOm yp) yp hs2) hs1) hbase1 hfew1 hline1 hs1 hplain1) (zt ha yp hs) hbase hfew hline hs hplain) hsw) λE σ H=>by
  rintro ⟨G0,H0,G,ρ,o,st,ef,k⟩
  obtain ⟨kvs,e1,ef⟩:=Option.bind_eq_some_iff.mp ef
  obtain ⟨kd,e5,ef⟩:=Option.bind_eq_some_iff.mp ef
  obtain ⟨kk,e6,ef⟩:=Option.bind_eq_some_iff.mp ef
  obtain ⟨c,e1⟩:=zLc e1
  obtain ⟨b,vs,q1,m⟩:=zNh st.er e1
  refine ⟨_,q1,.inr (.inr (.inl ⟨rfl,.inl ⟨vs,m.1⟩⟩)),G,ρ,kd,st.bs.gh,st.er,e5,λv1 G1 H1 t1 r1=>⟨Nat.zero_le _,λp hp=>?_⟩⟩
  have ev:=zDb e6 r1
  subst ev
  have st1:=st.step t1
  have m:=m.step t1
  have t2:zg G1 H1 G1 (upd H1 p (.lst [])):=zg.newH t1.s hp
  have m2:=m.step t2
  cases g0:zDc kvs kk with
  |some xs=>
   rw [g0] at ef
   simp only at ef
   split at ef
   ·rename_i hlen
    obtain ⟨d,e7,rfl⟩:=Option.map_eq_some_iff.mp ef
    rcases yV.get (k:=kk) m2.2.1 m2.2.2.1 with ⟨g1,_⟩|⟨xs',b',us,g1,g2,g3,g4,_⟩<;>rw [g0] at g1<;>cases g1
    exact ⟨b,_,.ref p,rfl,rfl,.inl ⟨.ref b',by rw [<- g2];exact zFQ.k (k:=kk) m2.1,.inl ⟨vs,m2.1⟩,.inl ⟨rfl,us,SqL.of g3⟩,G1,ρ,d,t2.s,(st1.step t2).er,e7,λv G3 H3 t3 r3=>⟨b',us,v,rfl,rfl,t3.h _ _ g3,Nat.lt_of_lt_of_le (by rw [<- g4.length];exact hlen) (by decide),
     k σ G3 _ (((st1.step t2).step t3).chM e1 q1 (m2.step t3) ((m2.step t3).put t3.s g2 ((Reps.mono t3.g _ _ g4).append (Reps.cons r3 Reps.nil))))⟩⟩⟩
   ·cases ef
  |none=>
   rw [g0] at ef
   simp only at ef
   split at ef
   ·rename_i hlen
    obtain ⟨d,e7,rfl⟩:=Option.map_eq_some_iff.mp ef
    obtain ⟨hv,hlv⟩:=m.gone g0 hlen
    have ch:=m.new (k:=kk) t1.s hp
    have st3:=st1.chM e1 q1 m ch
    have hpn:upd (upd H1 p (.lst [])) b (.dK (vs ++ [(kk,.ref p)])) p=some (.lst []):=by rw [zY (λz=>by rw [z,m.1] at hp;cases hp),zR]
    refine ⟨b,_,.ref p,rfl,rfl,.inr ⟨by rw [<- hv];exact zFQ.k (k:=kk) m2.1,_,zM4.k (k:=kk) m2.1 hlv,?_⟩⟩
    rw [zNF _ hv]
    refine ⟨.inl ⟨rfl,[],SqL.of hpn⟩,G1,_,d,st3.bs.gh,st3.er,e7,λv G4 H4 t4 r4=>⟨p,[],v,rfl,rfl,t4.h _ _ hpn,by decide,?_⟩⟩
    have m4:=ch.1.step t4
    have fin:=(st3.step t4).chM (List.getElem?_set_self (List.getElem?_eq_some_iff.mp e1).1) q1 m4 (m4.put t4.s (zI4 hv) (Reps.cons r4 Reps.nil))
    rw [zI3 g0,List.set_set] at fin
    exact k σ G4 _ fin
   ·cases ef
end
def zDd (ρ:Rho) (i:Nat):Option Ob:=match ρ[i]? with
 |some (.l xs)=>some (.p (.l xs))
 |some (.m kvs)=>some (.p (.m kvs))
 |some (.o _ x)=>some x
 |some (.b _ x)=>some x
 |_=>none
theorem zI7 {K:Fg} {G H:Hp} {ρ:Rho} {σ:L2.St} {i:Nat} {x:Ob} (e:Er K G H ρ σ) (h:zDd ρ i=some x):∃ a,σ[i]?=some (some (.ref a))/\At K G H x a:=by
 unfold zDd at h
 split at h
 ·rename_i xs q
  cases h
  obtain ⟨a,h1,h2,h3⟩:=e.slot i _ q rfl
  exact ⟨a,h1,h2,by simp [fpO,fpF],h3⟩
 ·rename_i xs q
  cases h
  obtain ⟨a,h1,h2,h3⟩:=e.slot i _ q rfl
  exact ⟨a,h1,h2,by simp [fpO,fpF],h3⟩
 ·rename_i c y q
  cases h
  obtain ⟨a,h1,h2,h3⟩:=e.slot i _ q rfl
  exact ⟨a,h1,h2.1.1,h2.1.2,h3⟩
 ·rename_i c y q
  cases h
  obtain ⟨a,h1,h2,h3⟩:=e.slot i _ q rfl
  exact ⟨a,h1,h2.1.1,h2.1.2,h3⟩
 ·cases h
section
variable {X:Cx} {o a e:Expr} {es:List Expr} {pos:Pos} {i:Nat} {f:ROd} {fl:ROl}
def vBin (i:Nat) (f:ROd):ROd:=λρ=>(f ρ).bind λd=>(zDd ρ i).bind λx=>match x with
 |.p (.m kvs)=>(zGs d).map λk=>.bl (zFT kvs k).isSome
 |_=>none
theorem zSq (hu:X.A.units+1<cLine) (i:Nat) (ho:PE X o (zDq i)) (ha:SE X a f) (hm:behindInMarks .In o=false:=by rfl):SE X (.Compare a [.In] [o] pos) (vBin i f):=
 zBo (zR2 (zOq hu ha ho) hm) λσ H Q=>by
  rintro ⟨G,ρ,d,s,er,ef,k⟩
  obtain ⟨dk,e1,ef⟩:=Option.bind_eq_some_iff.mp ef
  obtain ⟨x,e2,ef⟩:=Option.bind_eq_some_iff.mp ef
  cases x with
  |ins C fs=>cases ef
  |p y=>
   cases y with
   |m kvs=>
    obtain ⟨key,e3,rfl⟩:=Option.map_eq_some_iff.mp ef
    refine ⟨G,ρ,dk,s,er,e1,λv G' H' t r=>?_⟩
    obtain ⟨a',q1,A⟩:=zI7 (er.step t) e2
    obtain ⟨ws,z1,z2⟩:=A.rep
    have ek:=zDb e3 r
    subst ek
    refine ⟨_,q1,a',_,rfl,zFQ.k (k:=key) z1,?_⟩
    rcases z2.get (k:=key) with ⟨y1,y2⟩|⟨d',v',y1,y2,y3⟩
    ·rw [y2];exact k _ G' H' t (by rw [y1];exact yT.mpr rfl)
    ·rw [y2];exact k _ G' H' t (by rw [y1];exact yT.mpr rfl)
   |_=>cases ef
def tAo (K:Fg) (i:Nat) (f:ROl):TA:=λσ H Q=>∃ G ρ ds x,zu G H/\Er K G H ρ σ/\f ρ=some ds/\zDd ρ i=some x/\∀ vs a G' H',zg G H G' H'->Reps K G' ds vs->At K G' H' x a->Q (vs ++ [.ref a]) H'
structure SAo (X:Cx) (es:List Expr) (i:Nat) (f:ROl):Prop where
 pa:PA X es (tAo X.K i f)
 len:∀ ρ ds,f ρ=some ds->ds.length+1=es.length
theorem zQf (i:Nat) (ho:PE X o (zDq i)) (hs:stE X o []:=by rfl):SAo X [o] i zP where
 pa:=zJs (zt ho yp hs) λσ H Q=>by
  rintro ⟨G,ρ,ds,x,s,er,ef,ex,k⟩
  cases ef
  obtain ⟨a,q1,A⟩:=zI7 er ex
  exact ⟨_,q1,k [] a G H (zg.refl s) Reps.nil A⟩
 len:=λρ ds h=>by cases h;rfl
def aCo (f:ROd) (g:ROl):ROl:=λρ=>(f ρ).bind λd=>(g ρ).map (d :: ·)
theorem zGO (ha:SE X e f) (hr:SAo X es i fl) (hs:stE X e es:=by rfl):SAo X (e::es) i (aCo f fl) where
 pa:=zJs (zt ha hr.pa hs) λσ H Q=>by
  rintro ⟨G,ρ,ds,x,s,er,ef,ex,k⟩
  obtain ⟨d,e1,ef⟩:=Option.bind_eq_some_iff.mp ef
  obtain ⟨ds',e2,rfl⟩:=Option.map_eq_some_iff.mp ef
  refine ⟨G,ρ,d,s,er,e1,λv G1 H1 t1 r1=>⟨G1,ρ,ds',x,t1.s,er.step t1,e2,ex,λvs a G' H' t r A=>?_⟩⟩
  exact k (v::vs) a G' H' (t1.trans t) (Reps.cons (Rep.mono t.g _ _ r1) r) A
 len:=λρ ds h=>by
  obtain ⟨d,e1,h⟩:=Option.bind_eq_some_iff.mp h
  obtain ⟨ds',e2,rfl⟩:=Option.map_eq_some_iff.mp h
  have:=hr.len _ _ e2
  simp only [List.length_cons];omega
end
def spXB (K:Fg) (κ:Nat->Addr) (f:List D->Ob->Option (Except Nat D)) (n:Nat):Sp:=λvs H Q E=>∃ G ds x a ws r,vs=ws ++ [.ref a]/\zu G H/\At K G H x a/\Reps K G ds ws/\ds.length+1=n/\f ds x=some r/\match r with
 |.ok d=>∀ v G' H',zg G H G' H'->Rep K G' d v->Q v H'
 |.error c=>∀ G' H',zg G H G' H'->E (.ref (κ c)) none H'
def zLh (N:List Str) (F:Rho->Option zBR) (a:Addr) (ds:List D) (x:Ob):Option (Except Nat D):=(F ((ds.map Sl.v ++ [.b a x])++List.replicate (N.length-(ds.length+1)) .un)).bind λo=>match o with
 |.o (.rt d)=>some (.ok d)
 |.o (.nx _)=>some (.ok .non)
 |.ex c=>some (.error c)
 |_=>none
theorem zNl {K:Fg} {G H:Hp} {a:Addr} {x:Ob} {ds:List D} {vs:List V} (A:At K G H x a) (r:Reps K G ds vs):Er K G H (ds.map Sl.v ++ [.b a x]) ((vs ++ [V.ref a]).map some):=by
 have hl:=r.length
 have low:∀ {i:Nat} {s:Sl},(ds.map Sl.v ++ [Sl.b a x])[i]?=some s->(∃ d,s = .v d/\ds[i]?=some d)\/(i=ds.length/\s = .b a x):=λ{i s} h=>by
  by_cases hi:i<ds.length
  ·rw [List.getElem?_append_left (by simpa using hi),List.getElem?_map] at h
   cases q:ds[i]? with
   |none=>rw [q] at h;cases h
   |some d=>rw [q] at h;cases h;exact .inl ⟨d,rfl,rfl⟩
  ·rw [List.getElem?_append_right (by simpa using hi)] at h
   have hm:=List.mem_of_getElem? h
   have hlt:=(List.getElem?_eq_some_iff.mp h).1
   simp only [List.length_map,List.length_singleton] at hlt
   exact .inr ⟨by omega,List.mem_singleton.mp hm⟩
 refine ⟨by simp [hl],λi d h=>?_,λi s h o=>?_,λi j s t b c ne h1 o1 h2 o2=>?_⟩
 ·rcases low h with ⟨d',z,q⟩|⟨_,z⟩
  ·cases z
   obtain ⟨v,e1,e2⟩:=r.get q
   have hi:i<vs.length:=(List.getElem?_eq_some_iff.mp e1).1
   exact ⟨v,by rw [List.map_append,List.getElem?_append_left (by simpa using hi),List.getElem?_map,e1];rfl,e2⟩
  ·cases z
 ·rcases low h with ⟨d',z,q⟩|⟨hi,z⟩
  ·subst z;cases o
  ·subst z
   refine ⟨a,?_,⟨⟨A.rep,A.nd⟩,rfl⟩,A.fr⟩
   rw [hi,hl,List.map_append,List.getElem?_append_right (by simp)]
   simp
 ·rcases low h1 with ⟨d',z,q⟩|⟨hi,z⟩<;>(subst z;cases o1)
section
variable {P:Program} {w:World} {K:Fg} {mg:MGt} {base:Heap} {κ:Nat->Addr}
theorem zQg {x qual:Str} {st:Stmt} {fa:Addr} {fd:FuncData} {N ps:List Str} {k:Nat} {F:Rho->Option zBR} {f:List D->Ob->Option (Except Nat D)}
  (FF:Fun K x qual st fa fd) (S:zZ N ps (zI st))
  (hbody:∀ (cdv:Value) (A:Around) (outer:List Env) (s:Shared) (H:Hp) (E:XK),zBn k (A.deeper (envOfC qual (zI st) s.heap.objs.size fa cdv))->SXs (cxE P w K mg base N qual (zI st) fa cdv A outer s H E) κ E (ye st) F)
  (hf:∀ a ds y r,ds.length+1=ps.length->f ds y=some r->zLh N F a ds y=some r):zF8 P w K mg base (CXE P w) (k+1) fa fd ps (spXB K κ f ps.length):=by
 obtain ⟨oc,od,kV,doc,pm,an,cdv,ct,osl,rfl,lk,hcd⟩:=FF.ex
 refine zPk lk hcd S (λvs H Q E h=>?_) λA outer s H vs Q E hr h=>?_
 ·obtain ⟨G,ds,y,a,ws,d,rfl,_,_,r,hn,_⟩:=h
  rw [List.length_append,List.length_singleton,<- r.length,hn]
 ·obtain ⟨G,ds,y,a,ws,r,rfl,sm,hA,rp,hn,ef,kk⟩:=h
  refine ⟨_,hbody cdv A outer s H E hr,?_⟩
  obtain ⟨o,e1,e2⟩:=Option.bind_eq_some_iff.mp (hf a ds y r hn ef)
  have er:=(zNl hA rp).app (N.length-(ds.length+1)) (List.replicate (N.length-(ds.length+1)) none) (by simp)
  have es:L2.zCf N (ws ++ [.ref a])=(ws ++ [V.ref a]).map some++List.replicate (N.length-(ds.length+1)) none:=by rw [zI2,List.length_append,List.length_singleton,<- rp.length]
  rw [es]
  refine ⟨G,H,G,_,o,⟨er,⟨sm,zu.refl _,zu.refl _,λb o e n=>by rw [e] at n;cases n⟩,λi u b h1 h2 h3=>?_⟩,e1,?_⟩
  ·exfalso
   rcases List.mem_append.mp (List.mem_of_getElem? h1) with q|q
   ·rcases List.mem_append.mp q with q|q
    ·obtain ⟨d',_,rfl⟩:=List.mem_map.mp q;cases h2
    ·rw [List.mem_singleton.mp q] at h2;cases h2
   ·rw [(List.mem_replicate.mp q).2] at h2;cases h2
  ·cases o with
   |o x=>
    cases x with
    |rt d'=>
     cases e2
     exact λv G' H' b r'=>kk v G' H' ⟨b.gg,b.hh,b.gh,b.fr⟩ r'
    |nx ρ=>
     cases e2
     exact λσ' G' H' st'=>kk .non G' H' ⟨st'.bs.gg,st'.bs.hh,st'.bs.gh,st'.bs.fr⟩ (zBM.mpr rfl)
    |bk ρ=>cases e2
    |ct ρ=>cases e2
    |ro ρ=>cases e2
    |rm d ρ=>cases e2
   |ex c=>
    cases e2
    exact λG' H' b=>kk G' H' ⟨b.gg,b.hh,b.gh,b.fr⟩
end
structure zQh (P:Program) (w:World) (K:Fg) (mg:MGt) (base:Heap) (κ:Nat->Addr) (k:Nat) (x:Str) (n:Nat) (F:List D->Ob->Option (Except Nat D)):Prop where
 ex:∃ f fd ps,zF8 P w K mg base (CXE P w) k f fd ps (spXB K κ F n)/\mg x=some (.ref f)/\PySem.W.keepIn K (.ref f)=true/\L2.zD8 K fd ps []
section
variable {X:Cx} {κ:Nat->Addr} {W:XK} {e:Expr} {es:List Expr} {fl:ROl} {pos p cpos:Pos} {x y:Str} {k n i:Nat} {f:List D->Ob->Option (Except Nat D)}
def zQi (i:Nat) (fl:ROl) (f:List D->Ob->Option (Except Nat D)):Rho->Option (Except Nat D):=λρ=>(fl ρ).bind λds=>(zDd ρ i).bind λx=>f ds x
theorem zNm (h:zQh X.prog X.w X.K X.mg X.base κ k x n f) (hP:zDr (CXE X.prog X.w) X W) (hr:zBn k X.A) (hg:X.env.kindOf x=some .globalImplicit) (hn:(e::es).length=n) (ha:SAo X (e::es) i fl) (hdb:nDb x:=by decide)
  (he:stE X e es:=by rfl) (hpl:zDv X pos es:=by rfl) :
  PE X (.Call (.Name x p) (e::es) [] pos) (tCx X.K κ W (zQi i fl f)):=by
 obtain ⟨fa,fd,ps,FO,hm,hk,hb⟩:=h.ex
 refine zBo (zEZ (E:=W) FO hr hg hm hk hb .nil hP ha.pa hdb he hpl) λσ H Q zz=>?_
 obtain ⟨G,ρ,r,s,er,ef,k⟩:=zz
 obtain ⟨xs,e1,ef⟩:=Option.bind_eq_some_iff.mp ef
 obtain ⟨y,e2,e3⟩:=Option.bind_eq_some_iff.mp ef
 refine ⟨G,ρ,xs,y,s,er,e1,e2,λvs a G1 H1 t1 r1 A=>?_⟩
 show spXB X.K κ f n ((vs ++ [.ref a]) ++ []) H1 Q W
 rw [List.append_nil]
 refine ⟨G1,xs,y,a,vs,r,rfl,t1.s,A,r1,by rw [ha.len _ _ e1,hn],e3,?_⟩
 cases r with
 |ok d=>exact λv G' H' t r=>k v G' H' (t1.trans t) r
 |error c=>exact λG' H' t=>k G' H' (t1.trans t)
end
section
variable {X:Cx} {c a b:Expr} {pos:Pos} {p:ROb} {f g:ROd}
def vIf (p:ROb) (f g:ROd):ROd:=λρ=>(p ρ).bind λk=>if k=true then f ρ else g ρ
theorem zNn (hc:SB X c p) (ha:SE X a f) (hb:SE X b g):SE X (.IfExp c a b pos) (vIf p f g):=zBo (zM8 hc ha hb) λσ H Q=>by
 rintro ⟨G,ρ,d,s,er,ef,k⟩
 obtain ⟨kk,e1,e2⟩:=Option.bind_eq_some_iff.mp ef
 refine ⟨G,ρ,kk,s,er,e1,λG1 H1 t1=>?_⟩
 cases kk with
 |true=>rw [if_pos rfl] at e2 ⊢;exact ⟨G1,ρ,d,t1.s,er.step t1,e2,λv G' H' t r=>k v G' H' (t1.trans t) r⟩
 |false=>rw [if_neg Bool.false_ne_true] at e2 ⊢;exact ⟨G1,ρ,d,t1.s,er.step t1,e2,λv G' H' t r=>k v G' H' (t1.trans t) r⟩
end
section
variable {K:Fg} {G0 H0 G H:Hp} {ρ:Rho} {σ:L2.St} {i:Nat} {a C dx:Addr} {c:Option Addr} {f:Str} {fs:List (Str×Fl)} {ws:List (Str×V)} {fl:Fl} {u:V}
end
section
variable {X:Cx} {o value:Expr} {pos pos':Pos} {C:Addr} {f:Str} {fv:ROd} {fl:ROl}
end
section
variable {X:Cx} {o:Expr} {es:List Expr} {pos p pos':Pos} {fl:ROl} {k n i:Nat} {F:Ob->List D->Option D} {F':Ob->List D->Option Ob} {x:Str}
end
section
variable {X:Cx} {κ:Nat->Addr} {e o:Expr} {es:List Expr} {pos p cpos pos':Pos} {fl:ROl} {k n i:Nat} {f:List D->Option (Except Nat D)} {x y:Str} {C fa:Addr} {F:Ob->List D->Option Ob}
end
section
variable {X:Cx} {e:Expr} {pos:Pos} {f:ROd}
def zCK (f:ROd):ROo:=λρ=>(f ρ).map λd=>.rm d ρ
theorem zEv (he:SE X e f):SS X (.Return (some e) pos) (zCK f):=qN (zIo he) λQ σ H=>by
 rintro ⟨G0,H0,G,ρ,o,st,ef,k⟩
 obtain ⟨d,e1,rfl⟩:=Option.map_eq_some_iff.mp ef
 exact ⟨G,ρ,d,st.bs.gh,st.er,e1,λv G' H' t r=>k v σ G' H' (st.step t) r⟩
end
section
variable {X:Cx} {o:Expr} {es:List Expr} {pos p pos' cpos:Pos} {fl:ROl} {k n i:Nat} {F:Ob->List D->Option (D×Ob)} {x y:Str}
end
section
variable {X:Cx} {e:Expr} {pos:Pos} {fl:ROl}
end
section
variable {X:Cx} {o e:Expr} {es:List Expr} {pos apos:Pos} {C:Addr} {m:Str} {i k n:Nat} {F:Ob->List D->Option (List D)} {fl:ROl}
end
section
variable {X:Cx} {o:Expr} {es:List Expr} {pos p np cpos:Pos} {fl:ROl} {k n:Nat} {F:Ob->List D->Option (D×Ob)} {x:Str} {A B:List Stmt} {FA FB:ROo}
end
def zRs {α:Type} (f:Addr->Option α):Option α:=by
 classical exact if h:∃ r,∀ a,f a=some r then some h.choose else none
theorem zGP {α:Type} {f:Addr->Option α} {r:α} (h:∀ a,f a=some r):zRs f=some r:=by
 have e:∃ r,∀ a,f a=some r:=⟨r,h⟩
 unfold zRs
 rw [dif_pos e]
 have:=e.choose_spec 0
 rw [h 0] at this
 exact this.symm
theorem zI8 {α:Type} {f:Addr->Option α} {r:α} (h:zRs f=some r):∀ a,f a=some r:=by
 unfold zRs at h
 split at h
 ·rename_i e;cases h;exact e.choose_spec
 ·cases h
section
variable {X:Cx} {e o:Expr} {pos:Pos} {st:Stmt}
end
section
variable {P:Program} {w:World} {K:Fg} {mg:MGt} {base:Heap} {N:List Str} {qual:Str} {scope:Scope} {f:Addr} {cd:Value} {A:Around} {outer:List Env} {s₀:Shared} {H₀:Hp} {E:XK}
theorem zFt:PassesOwn (model (cxE P w K mg base N qual scope f cd A outer s₀ H₀ E).prog (cxE P w K mg base N qual scope f cd A outer s₀ H₀ E).w) (cxE P w K mg base N qual scope f cd A outer s₀ H₀ E).A (cxE P w K mg base N qual scope f cd A outer s₀ H₀ E).env (cxE P w K mg base N qual scope f cd A outer s₀ H₀ E).xe:=PassesOwn.leaving
end
section
variable {M:Model} {A:Around} {E:VSt} {s:Shared} {bs:Heap} {env:Env} {outer:List Env} {L e:Addr} {cls a0 fl:Value}
end
def zEw (g:D->Rho->Option Rho) (p:ROb) (f:Rho->Option (Except Nat D)):List D->Rho->Option (Except Nat (List D))
 | [],_=>some (.ok [])
 |d::ds,ρ=>(g d ρ).bind λρ1=>(p ρ1).bind λb=>if b=true then (f ρ1).bind λr=>match r with
   |.ok y=>(zEw g p f ds ρ).map λq=>match q with
    |.ok ys=>.ok (y::ys)
    |.error c=>.error c
   |.error c=>some (.error c)
  else zEw g p f ds ρ
theorem zGQ {g:D->Rho->Option Rho} {p:ROb} {f:ROd}:∀ {ds ys:List D},zM g p f ds ρ=some ys->zEw g p (λρ=>(f ρ).map .ok) ds ρ=some (.ok ys)
 | [],_,h=>by cases h;rfl
 |d::ds,ys,h=>by
  obtain ⟨ρ1,e1,h⟩:=Option.bind_eq_some_iff.mp h
  obtain ⟨b,e2,h⟩:=Option.bind_eq_some_iff.mp h
  rw [zEw,e1,Option.bind_some,e2,Option.bind_some]
  cases b with
  |false=>rw [if_neg Bool.false_ne_true] at h ⊢;exact zGQ h
  |true=>
   rw [if_pos rfl] at h ⊢
   obtain ⟨x,e3,h⟩:=Option.bind_eq_some_iff.mp h
   obtain ⟨zs,e4,rfl⟩:=Option.map_eq_some_iff.mp h
   rw [e3,Option.map_some,Option.bind_some]
   simp only [zGQ e4,Option.map_some]
def preX (zs:List D):Except Nat (List D)->Except Nat (List D)
 |.ok ys=>.ok (zs++ys)
 |.error c=>.error c
section
variable {X:Cx} {tg iter elt:Expr} {scope:Scope} {pos:Pos} {nm:List Str} {fl:ROl} {gd:D->Rho->Option Rho} {f:Rho->Option (Except Nat D)} {κ:Nat->Addr} {W:XK}
structure Cw (X:Cx) (pins:PNt) (σ:L2.St) (H:Hp) (s:Shared) (C:Addr):Prop where
 inv:Inv X pins σ H s
 ns:∃ m,s.heap.Ns C m
 fr:H C=none
 ne:C≠X.env.locals
 sz:X.s₀.heap.objs.size<=C
 cl:∀ x c,X.env.cells.lookup x=some c->c≠C
 pn:∀ p∈X.pn++pins,p.1≠C
structure Co (X Y:Cx) (pins:PNt) (σ:L2.St) (H:Hp) (m:Nat) (fp:List Addr) (tn:Nat->Heap->Prop) (c C:Addr) (s:Shared):Prop where
 nD:H c=none
 inv:Inv Y [] (σ++List.replicate m none) (upd H c (.lst [])) s
 tn:tn 0 s.heap
 fr:∀ b∈fp,upd H c (.lst []) b=none
 st:∀ (H':Hp),(∀ b∈fp,H' b=none)->∀ b∈fp,FpOk Y [] H' b
 out:∀ pins' σ' H' s',Inv Y pins' σ' H' s'->Cw X pins σ H' s' C
theorem Cw.turned {X:Cx} (o:Cw X pins σ H s C) (e:Heap.SameBut C s.heap h'):Inv X pins σ H { s with heap:=h' }:=o.inv.turned (t':=s.toks) (λb _ hb q=>e.extBut b _ hb q) o.fr o.ne (.inr o.sz) o.cl o.pn
theorem zLi {s:Shared} {tn:Nat->Heap->Prop} {E:VSt} {RR:Value->Addr->Result->Shared->Prop} (hk:scope.kind = .function) (hok:zA9 X.N nm scope.names X.env.scope.names=true) (I:Inv X pins σ H s) (T:zNA X.prog X.w X.K tg J fp it tn) (h0:tn 0 s.heap) (hfp:∀ b∈fp,FpOk X pins H b)
  (h:∀ c C s₃ s₄,Co X (yj X nm scope C s₃ (upd H c (.lst [])) fp) pins σ H nm.length fp tn c C s₄->codeAny (model X.prog X.w) X.A (.compLoop (.ListComp elt [⟨tg,iter,ifs,0⟩] scope pos) 0 (.ref it) (.ref c) (compEnvC scope (zFl scope.names X.env.cells) C X.env)) (RR (.ref c) C) s₄) :
  wpAny (model X.prog X.w) X.A (newList []) (λacc s₃=>wpAny (model X.prog X.w) X.A (newFunctionEnv scope X.env.globals (zFl scope.names X.env.cells) [] X.env.qual none .none (some X.env)) (λcenv s₄=>
   codeAny (model X.prog X.w) X.A (.compStart (.ListComp elt [⟨tg,iter,ifs,0⟩] scope pos) 0 (.ref it) acc { cenv with scope:=relabel scope X.env }) (RR acc cenv.locals) s₄) E s₃) E s:=by
 have hfplt:∀ b∈fp,b<s.heap.objs.size:=λb hb=>by
  obtain ⟨o,e,_⟩:=T.obj 0 s.heap h0 b hb
  exact Heap.lt_size e
 refine wpAny_newObj_type ?_
 have I₃:Inv X pins σ (upd H s.heap.objs.size (.lst [])) { s with heap:=s.heap.push { cls:=.type "list",data:=.seq ([]:List Value).toArray } }:=I.lnew (t':=s.toks) (ys:=[]) (its:=[]) .nil (Nat.zero_le _)
 have nD:H s.heap.objs.size=none:=I.fresh
 have hsz:=Heap.size_push s.heap { cls:=.type "list",data:=.seq ([]:List Value).toArray }
 have st3:=T.keep 0 s.heap (s.heap.push { cls:=.type "list",data:=.seq ([]:List Value).toArray }) h0 λb hb o e=>Heap.get?_push_of_some _ e
 generalize hs₃:({ s with heap:=s.heap.push { cls:=.type "list",data:=.seq ([]:List Value).toArray } }:Shared)=s₃ at I₃ ⊢
 have hlt3:∀ b∈fp,b<s₃.heap.objs.size:=λb hb=>by rw [<- hs₃];exact Nat.lt_of_lt_of_eq (Nat.lt_succ_of_lt (hfplt b hb)) hsz.symm
 replace st3:tn 0 s₃.heap:=by rw [<- hs₃];exact st3
 have hfp3:∀ b∈fp,FpOk X pins (upd H s.heap.objs.size (.lst [])) b:=λb hb=>⟨by rw [zY (Nat.ne_of_lt (hfplt b hb))];exact (hfp b hb).1,(hfp b hb).2⟩
 clear hsz hs₃ hfplt
 generalize s.heap.objs.size=c at *
 refine wpAny_newFunctionEnv (λy hy=>(qH hok hy).1) (by intro y hy;simp at hy) (λh₁ hns₁ hsb₁=>?_) hk
 have keep:∀ b o,s₃.heap.get? b=some o->h₁.get? b=some o:=λb o e=>hsb₁.extBut b o (Nat.ne_of_lt (Heap.lt_size e)) (Heap.get?_push_of_some _ e)
 have I4:=zJu (nm:=nm) (scope:=scope) (tk:=s₃.toks+([]:List (Str×Value)).length) I₃ hk hok hfp3 hlt3 hns₁ keep
 have st4:tn 0 h₁:=T.keep 0 _ _ st3 λb hb o e=>keep b o e
 have loop:=h c s₃.heap.objs.size s₃ { s₃ with heap:=h₁,toks:=s₃.toks+([]:List (Str×Value)).length } ⟨nD,I4,st4,λb hb=>(hfp3 b hb).1,λH' hn b hb=>⟨hn b hb,(I4.ok.exf b hb).1,λz=>I4.ok.exfs b hb z,.inl hb,(I4.ok.exf b hb).2,λp hp=>(by simp [yj] at hp)⟩,λpins' σ' H' s' J=>
  ⟨I₃.call' (ch:=fp) J.os J.base J.hok J.bare λb hb=>⟨(hfp b hb).2.2.2.1,(hfp b hb).2.1,(hfp b hb).2.2.2.2.1,(hfp b hb).2.2.2.2.2⟩,J.loc.imp λ_ h=>h.1,J.free,Nat.ne_of_gt I₃.lt,I₃.sz,λx c e=>Nat.ne_of_lt (by obtain ⟨v,q⟩:=I₃.cell x c e;exact q.lt),λp hp=>Nat.ne_of_lt (Heap.lt_size (I₃.pin p hp).1)⟩⟩
 exact codeAny_compStart_list loop (T.self _ 0 _ _ _ st4 loop)
structure LX (Y:Cx) (G H:Hp) (gd:D->Rho->Option Rho) (p:ROb) (f:Rho->Option (Except Nat D)) (ds:List D) (r:Except Nat (List D)) (c:Addr) (tn:Nat->Heap->Prop) (fp:List Addr) (R:Rho) (i:Nat) (σ:L2.St) (H1 G1:Hp) (zs:List D) (vs:List V) (rest:Except Nat (List D)) (s:Shared):Prop where
 le:i<=ds.length
 inv:Inv Y [] σ H1 s
 tn:tn i s.heap
 fr:∀ b∈fp,H1 b=none
 t:zg G H G1 H1
 er:Er Y.K G1 H1 R σ
 nd:zFS H1 R σ c
 gD:G1 c=none
 hD:H1 c=some (.lst vs)
 rz:Reps Y.K G1 zs vs
 lz:zs.length<=i
 ec:zEw gd p f (ds.drop i) R=some rest
 ey:r=preX zs rest
theorem zg.gD {G H G' H':Hp} {c:Addr} {o:HO} (t:zg G H G' H') (g:G c=none) (h:H c=some o):G' c=none:=by
 cases q:G' c with
 |none=>rfl
 |some o'=>
  have:=t.f _ o' q g
  rw [h] at this;cases this
theorem loopX {Y:Cx} {G H:Hp} {r:Except Nat (List D)} {R:Result->Shared->Prop} {p:ROb} {s:Shared} {ds:List D} {tn:Nat->Heap->Prop} (hx:Y.xe=λ_ _=>False) (hc:Y.calm=true) (hkg:zDz ρ.length gd) (hg:SG Y tg gd) (ht:STs Y ifs p) (he:∀ EE,zDr (CXE Y.prog Y.w) (Y.wish EE) W->PE (Y.wish EE) elt (tCx Y.K κ W f)) (T:zNA Y.prog Y.w Y.K tg J fp it tn) (stat:∀ (H':Hp),(∀ b∈fp,H' b=none)->∀ b∈fp,FpOk Y [] H' b) (iter':zM5 Y.K G J ds) (hl:ds.length<=10000000) (nD:H c=none)
  (h0:LX Y G H gd p f ds r c tn fp (ρ++List.replicate m .un) 0 σ H0 G [] [] r s)
  (hW:∀ c,r = .error c->∀ G' H',zg G H G' H'->W (.ref (κ c)) none H') (fin:∀ zs,r = .ok zs->∀ σ' H' G' vs s',Inv Y [] σ' H' s'->zg G H G' H'->G' c=none->H' c=some (.lst vs)->Reps Y.K G' zs vs->R (.ok .next) s') (bad:∀ pins' σ' H' s' e s'',Inv Y pins' σ' H' s'->CXE Y.prog Y.w Y.stack H' s' W e s''->notedBy (model Y.prog Y.w) Y.A Y.env (λe s'=>R (.error e) s') e s'') :
  codeAny (model Y.prog Y.w) Y.A (.compLoop (.ListComp elt [⟨tg,iter,ifs,0⟩] scope pos) 0 (.ref it) (.ref c) Y.env) R s:=by
 refine zHC (λn s'=>∃ i σ' H1 G1 zs vs rest,n=ds.length-i/\LX Y G H gd p f ds r c tn fp (ρ++List.replicate m .un) i σ' H1 G1 zs vs rest s') ?_ ds.length ⟨0,_,_,_,_,_,_,rfl,h0⟩
 rintro n s5 ⟨i,σ5,H5,G5,zs,vs,rest,rfl,⟨hi,I5,st5,fr5,t5,er5,nd5,gD5,hD5,rz5,lz5,ec5,ey5⟩⟩
 by_cases hlt:i<ds.length
 ·have ed:ds.drop i=ds[i]::ds.drop (i+1):=List.drop_eq_getElem_cons hlt
  rw [ed] at ec5
  obtain ⟨ρ6,e6,ec5⟩:=Option.bind_eq_some_iff.mp ec5
  obtain ⟨b6,e7,ec5⟩:=Option.bind_eq_some_iff.mp ec5
  refine wpAny_mono (T.item Y rfl rfl rfl hc i [] s5 σ5 H5 _ I5 (stat _ fr5) st5 (iter'.go i H5 (t5.g.trans t5.s) hlt)) (λr s6 zz=>?_) λ_ _ z=>z
  obtain ⟨u,hr6,h6⟩:=zz
  subst hr6
  refine wpAny_mono h6 (λ_ s7 zz=>?_) λ_ _ z=>z
  obtain ⟨x7,H7,I7,rx7,y7,st7,fr7⟩:=zz
  obtain ⟨G7,t7,r7⟩:=iter'.yld i G5 H5 x7 H7 t5.g t5.s hlt y7
  have I7':=I7.pinned (stat _ fr7) (T.obj _ _ st7)
  have er7:=er5.step t7
  obtain ⟨k1,k2,k3⟩:=hkg _ _ _ e6
  have nd7:=nd5.grow er5 t7.h
  have hgr:=hg _ s7 σ5 H7 x7 u (λσ8 H8=>H8=H7/\Er Y.K G7 H7 ρ6 σ8/\zFS H7 ρ6 σ8 c) I7' rx7
   ⟨G7,q8 H7 _ σ5,G7,_,ds[i],ρ6,er7.toSt t7.s,r7 _ (by simp [hlt]),e6,λσ8 st8=>⟨rfl,st8.er,zNS er7 nd7 st8 k3 (t7.h _ _ hD5)⟩⟩
  refine wpAny_mono hgr (λ_ s8 q9=>?_) λ_ _ z=>(by rw [hx] at z;exact z.elim)
  obtain ⟨σ8,H8,I8,e8,er8,nd8⟩:=q9
  subst e8
  have again:∀ {G9 H9 s9 zs' vs' rest'},Inv Y ([]++zGv fp s7.heap) σ8 H9 s9->zg G H G9 H9->Er Y.K G9 H9 ρ6 σ8->zFS H9 ρ6 σ8 c->G9 c=none->H9 c=some (.lst vs')->Reps Y.K G9 zs' vs'->zs'.length<=i+1->zEw gd p f (ds.drop (i+1)) (ρ++List.replicate m .un)=some rest'->r=preX zs' rest' ->
    ∃ k,k<ds.length-i/\∃ i σ' H1 G1 zs vs rest,k=ds.length-i/\LX Y G H gd p f ds r c tn fp (ρ++List.replicate m .un) i σ' H1 G1 zs vs rest s9:=λ{G9 H9 s9 zs' vs' rest'} I9 t9 er9 n9 g9 h9 r9 l9 c9 y9=>by
   refine ⟨ds.length-(i+1),by omega,i+1,σ8,H9,G9,zs',vs',rest',rfl,⟨hlt,I9.unpinned,T.keep _ _ _ st7 λb hb o e=>(I9.pin (b,o) (List.mem_append_right _ (List.mem_append_right _ (zCB hb e)))).1,λb hb=>?_,t9,er9.drop k1 k2,n9.drop k2,g9,h9,r9,l9,c9,y9⟩⟩
   obtain ⟨o,e,d⟩:=T.obj _ _ st7 b hb
   exact (I9.pin (b,o) (List.mem_append_right _ (List.mem_append_right _ (zCB hb e)))).2.1
  refine zLB (X:=Y) hx ht I8 t7.s er8 e7 λG9 H9 s9 I9 t9=>?_
  have tt:=(t5.trans t7).trans t9
  have t79:=t7.trans t9
  have gD9:=t79.gD gD5 hD5
  have hD9:=t79.h _ _ hD5
  have er9:=er8.step t9
  have nd9:=nd8.grow er8 t9.h
  cases b6 with
  |false=>
   rw [if_neg Bool.false_ne_true] at ec5 ⊢
   exact again I9 tt er9 nd9 gD9 hD9 (Reps.mono t79.g _ _ rz5) (Nat.le_succ_of_le lz5) ec5 ey5
  |true=>
  rw [if_pos rfl] at ec5 ⊢
  obtain ⟨rr,e10,ec5⟩:=Option.bind_eq_some_iff.mp ec5
  have her:=he (λe s'=>∃ pins' σ' Hs s0,Inv Y pins' σ' Hs s0/\CXE Y.prog Y.w Y.stack Hs s0 W e s') λpins' σ' Hs s0 e s' J h=>⟨pins',σ',Hs,s0,J.unwish,h⟩
  cases rr with
  |error c=>
   simp only [Option.some.injEq] at ec5
   have er':r = .error c:=by rw [ey5,<- ec5];rfl
   refine wpAny_mono (her _ s9 σ8 H9 (λ_ _=>False) (I9.wish _) ⟨G9,ρ6,_,t9.s,er9,e10,λG' H' t=>hW c er' G' H' (tt.trans t)⟩) (λuy s10 q9=>?_) λe s' z=>?_
   ·obtain ⟨_,_,_,_,z⟩:=q9
    exact z.elim
   ·obtain ⟨p',σ',Hs,s0,J,z⟩:=z
    exact bad p' σ' Hs s0 e s' J z
  |ok y=>
   obtain ⟨rest',e11,ec5⟩:=Option.map_eq_some_iff.mp ec5
   refine wpAny_mono (her _ s9 σ8 H9 (λv H'=>∃ G',zg G9 H9 G' H'/\Rep Y.K G' y v) (I9.wish _) ⟨G9,ρ6,_,t9.s,er9,e10,λv G' H' t r=>⟨G',t,r⟩⟩) (λuy s10 q9=>?_) λe s' z=>?_
   ·obtain ⟨vy,H10,I10,rvy,G10,t10,ry⟩:=q9
    have I10:=I10.unwish
    have gD10:=t10.gD gD9 hD9
    have hD10:=t10.h _ _ hD9
    have tt10:=tt.trans t10
    have lv:vs.length=zs.length:=rz5.length.symm
    have hap:=zCu (X:=Y) _ s10 σ8 H10 (.ref c) [vy] (.ref c) [uy] (λ_ H'=>H'=upd H10 c (.lst (vs ++ [vy]))) I10 rfl (.cons rvy .nil)
     ⟨c,vs,vy,rfl,rfl,hD10,Nat.lt_of_lt_of_le (by omega:vs.length<10000001) (by decide),rfl⟩
    refine wpAny_mono hap (λ_ s11 q9=>?_) λ_ _ z=>(by rw [hx] at z;exact z.elim)
    obtain ⟨_,H11,I11,_,e11'⟩:=q9
    subst e11'
    have er10:=er9.step t10
    have nd10:=nd9.grow er9 t10.h
    exact again I11 ⟨tt10.g,λb o e=>by rw [zY (qR e nD)];exact tt10.h b o e,λb o e=>by rw [zY (λz=>by rw [z,gD10] at e;cases e)];exact t10.s b o e,tt10.f⟩ (er10.updOther nd10) (nd10.upd er10) gD10 zR ((Reps.mono (t79.trans t10).g _ _ rz5).append (Reps.cons ry Reps.nil)) (by simp only [List.length_append,List.length_cons,List.length_nil];omega) e11 (by rw [ey5,<- ec5];cases rest'<;>simp [preX])
   ·obtain ⟨p',σ',Hs,s0,J,z⟩:=z
    exact bad p' σ' Hs s0 e s' J z
 ·have e:i=ds.length:=by omega
  subst e
  rw [List.drop_length] at ec5
  cases ec5
  simp only [preX,List.append_nil] at ey5
  refine wpAny_mono (T.done Y rfl rfl rfl hc _ [] s5 σ5 H5 _ I5 (stat _ fr5) st5 (iter'.stop _ H5 (t5.g.trans t5.s) (Nat.le_refl _))) (λr s6 zz=>?_) λ_ _ z=>z
  obtain ⟨hr6,I6⟩:=zz
  subst hr6
  exact fin zs ey5 σ5 H5 G5 vs s6 I6 t5 gD5 hD5 rz5
theorem zJx {p:ROb} {s:Shared} {ds:List D} {tn:Nat->Heap->Prop} {E:VSt} {RR:Value->Addr->Result->Shared->Prop} (hc:X.calm=true) (hk:scope.kind = .function) (hok:zA9 X.N nm scope.names X.env.scope.names=true) (hkg:zDz X.N.length gd) (hg:∀ C s₃ H₃ ex,SG (yj X nm scope C s₃ H₃ ex) tg gd) (ht:∀ C s₃ H₃ ex,STs (yj X nm scope C s₃ H₃ ex) ifs p) (he:∀ (C:Addr) (s₃:Shared) (H₃:Hp) (ex:List Addr) (EE:VSt),zDr (CXE X.prog X.w) ((yj X nm scope C s₃ H₃ ex).wish EE) W->PE ((yj X nm scope C s₃ H₃ ex).wish EE) elt (tCx X.K κ W f)) (hex:∀ u o H',W u o H'->X.ex = []) (I:Inv X pins σ H s) (T:zNA X.prog X.w X.K tg J fp it tn) (h0:tn 0 s.heap) (hfp:∀ b∈fp,FpOk X pins H b) (sm:zu G H) (er:Er X.K G H ρ σ) (iter':zM5 X.K G J ds) (hl:ds.length<=10000000) (hys:zEw gd p f ds (ρ++List.replicate nm.length .un)=some r) (hW:∀ c,r = .error c->∀ G' H',zg G H G' H'->W (.ref (κ c)) none H')
  (hRR:∀ ys,r = .ok ys->∀ c C s' H' G' vs,Cw X pins σ H' s' C->zg G H G' H'->H c=none->G' c=none->H' c=some (.lst vs)->Reps X.K G' ys vs->RR (.ref c) C (.ok .next) s')
  (hERR:∀ acc C s' H' x T' C0,Cw X pins σ H' s' C->Fly X.stack x T' (.ref C0) s'.heap->X.s₀.heap.get? x=none->X.s₀.heap.get? T'=none->H' x=none->H' T'=none->W (.ref C0) none H'->x≠C->T'≠C->notedBy (model X.prog X.w) X.A (compEnvC scope (zFl scope.names X.env.cells) C X.env) (λe s''=>RR acc C (.error e) s'') (.ref x) s') :
  wpAny (model X.prog X.w) X.A (newList []) (λacc s₃=>wpAny (model X.prog X.w) X.A (newFunctionEnv scope X.env.globals (zFl scope.names X.env.cells) [] X.env.qual none .none (some X.env)) (λcenv s₄=>
   codeAny (model X.prog X.w) X.A (.compStart (.ListComp elt [⟨tg,iter,ifs,0⟩] scope pos) 0 (.ref it) acc { cenv with scope:=relabel scope X.env }) (RR acc cenv.locals) s₄) E s₃) E s:=by
 have hr:ρ.length=X.N.length:=by rw [er.len,I.len]
 refine zLi hk hok I T h0 hfp λc C s₃ s₄ o=>?_
 have nw:=zg.newH (o:=.lst []) sm o.nD
 refine loopX (Y:=yj X nm scope C s₃ (upd H c (.lst [])) fp) (G:=G) (H:=H) (ρ:=ρ) rfl hc (by rw [hr];exact hkg) (hg _ _ _ _) (ht _ _ _ _) (he _ _ _ _) T o.st iter' hl o.nD
  ⟨Nat.zero_le _,o.inv,o.tn,o.fr,nw,(er.step nw).app nm.length _ (by simp),((zFS.new er o.nD).grow er (yq o.nD)).app er,sm.free o.nD,zR,Reps.nil,Nat.le_refl _,by simpa using hys,by cases r<;>rfl⟩ hW
  (λzs e σ' H' G' vs s' J t g h r=>hRR zs e c C s' H' G' vs (o.out _ _ _ _ J) t o.nD g h r) λp' σ' Hs s0 e s' J0 z=>?_
 obtain ⟨x,T',C0,H',rfl,os,bare,un,hok',fly,nx,nT,hx',hT',hE⟩:=z
 have W0:=o.out _ _ _ _ J0
 obtain ⟨m,oC,_,_,hC0,_⟩:=W0.ns
 have old:∀ b,s0.heap.get? b=none->X.s₀.heap.get? b=none:=λb n=>by
  cases q:X.s₀.heap.get? b with
  |none=>rfl
  |some o=>
   obtain ⟨o',q'⟩:=W0.inv.base.there b o q (by rw [hex _ _ _ hE];simp)
   rw [n] at q';cases q'
 exact hERR _ C s' H' x T' C0 (o.out _ _ _ _ (J0.call' os un hok' bare λb m=>absurd m (by simp))) fly (old x nx) (old T' nT) hx' hT' hE (λz=>by subst z;rw [nx] at hC0;cases hC0) (λz=>by subst z;rw [nT] at hC0;cases hC0)
theorem zHN {p:ROb} {f:ROd} {s:Shared} {ds ys:List D} {tn:Nat->Heap->Prop} {E:VSt} {RR:Value->Addr->Result->Shared->Prop} (hc:X.calm=true) (hk:scope.kind = .function) (hok:zA9 X.N nm scope.names X.env.scope.names=true) (hkg:zDz X.N.length gd) (hg:∀ C s₃ H₃ ex,SG (yj X nm scope C s₃ H₃ ex) tg gd) (ht:∀ C s₃ H₃ ex,STs (yj X nm scope C s₃ H₃ ex) ifs p) (he:∀ C s₃ H₃ ex,SE (yj X nm scope C s₃ H₃ ex) elt f) (I:Inv X pins σ H s) (T:zNA X.prog X.w X.K tg J fp it tn) (h0:tn 0 s.heap) (hfp:∀ b∈fp,FpOk X pins H b) (sm:zu G H) (er:Er X.K G H ρ σ) (iter':zM5 X.K G J ds) (hl:ds.length<=10000000) (hys:zM gd p f ds (ρ++List.replicate nm.length .un)=some ys) (hRR:∀ c C s' H' G' vs,Cw X pins σ H' s' C->zg G H G' H'->H c=none->G' c=none->H' c=some (.lst vs)->Reps X.K G' ys vs->RR (.ref c) C (.ok .next) s') :
  wpAny (model X.prog X.w) X.A (newList []) (λacc s₃=>wpAny (model X.prog X.w) X.A (newFunctionEnv scope X.env.globals (zFl scope.names X.env.cells) [] X.env.qual none .none (some X.env)) (λcenv s₄=>
   codeAny (model X.prog X.w) X.A (.compStart (.ListComp elt [⟨tg,iter,ifs,0⟩] scope pos) 0 (.ref it) acc { cenv with scope:=relabel scope X.env }) (RR acc cenv.locals) s₄) E s₃) E s:=by
 refine zJx (κ:=λ_=>0) (W:=λ_ _ _=>False) (f:=λρ=>(f ρ).map .ok) hc hk hok hkg hg ht (λC s₃ H₃ ex EE _=>?_) (λ_ _ _ z=>z.elim) I T h0 hfp sm er iter' hl (zGQ hys) (λc z=>by cases z) (λys' z=>by cases z;exact hRR) λ_ _ _ _ _ _ _ _ _ _ _ _ _ z=>z.elim
 intro pins s σ H Q I h
 obtain ⟨G,ρ,r,s',er,ef,k⟩:=h
 obtain ⟨d,e1,rfl⟩:=Option.map_eq_some_iff.mp ef
 exact wpAny_mono (he C s₃ H₃ ex pins s σ H Q I.unwish ⟨G,ρ,d,s',er,e1,k⟩) (λu s2 ⟨v,H2,I2,q⟩=>⟨v,H2,I2.wish _,q⟩) λ_ _ z=>z.elim
end
section
variable {P:Program} {w:World} {K:Fg} {mg:MGt} {base:Heap} {N:List Str} {qual:Str} {scp:Scope} {fa:Addr} {cd:Value} {A:Around} {outer:List Env} {s₀:Shared} {H₀:Hp} {E:XK} {tg iter elt o:Expr} {scope:Scope} {pos pos' spos:Pos} {nm:List Str} {fl:ROl} {gd:D->Rho->Option Rho} {g:Rho->Option (Except Nat D)} {κ:Nat->Addr} {C:Addr} {fld:Str}
end
section
variable {X:Cx} {tg iter elt:Expr} {ifs:List Expr} {scope:Scope} {pos:Pos} {nm:List Str} {fl:ROl} {gd:D->Rho->Option Rho} {p:ROb} {f:ROd}
theorem zAG (hm:nm.length=m) (hc:X.calm=true) (hk:scope.kind = .function) (hok:zA9 X.N nm scope.names X.env.scope.names=true) (hi:SI X tg iter fl) (hkg:zDz X.N.length gd) (hg:∀ C s₃ H₃ ex,SG (yj X nm scope C s₃ H₃ ex) tg gd) (ht:∀ C s₃ H₃ ex,STs (yj X nm scope C s₃ H₃ ex) ifs p) (he:∀ C s₃ H₃ ex,SE (yj X nm scope C s₃ H₃ ex) elt f) (hs:∀ x,foldedSetIterable iter X.env x=pure x:=by intro _;rfl):SF X (.ListComp elt [⟨tg,iter,ifs,0⟩] scope pos) (zK m fl gd p f):=by
 intro pins s σ H Q I h
 obtain ⟨G,ρ,ys,sm,er,ef,k⟩:=h
 obtain ⟨ds,e1,e2⟩:=Option.bind_eq_some_iff.mp ef
 split at e2
 ·rename_i hl
  subst hm
  have hclos:closureFor scope X.env=pure (zFl scope.names X.env.cells):=zCz λy hy hf=>I.ok.has y.1 ((qH hok hy).2.2.2 hf)
  rw [eval_ListComp]
  refine wpAny_comprehension_free (use:=none) rfl hs hclos hk (λy hy=>(qH hok hy).2.2.1) (thn (hi pins s σ H _ I ⟨G,ρ,ds,sm,er,e1,λJ G' H' t it=>(⟨G',t,it⟩:∃ G',zg G H G' H'/\zM5 X.K G' J ds)⟩) λv s1 h1=>thn h1 λitv s2 h2=>?_)
  obtain ⟨it,fp,tn,J,H2,rfl,I2,T,st2,f2,G2,t2,it2⟩:=h2
  refine zHN (RR:=λacc C=>compPost (model X.prog X.w) X.A X.xe none (EP X pins σ Q) acc C) hc hk hok hkg hg ht he I2 T st2 f2 t2.s (er.step t2) it2 (Nat.le_trans hl (by decide)) e2 λD C s' H' G' vs o t' nD gD hD rD=>?_
  exact ⟨_,o.ns.choose_spec,λh' hs'=>⟨.ref D,H',o.turned hs',rfl,k D vs G' H' (t2.trans t') (t2.h.free nD) gD hD rD⟩⟩
 ·cases e2
theorem zI9 {py spos:Pos} {fo:Rho->List D->Out} (hm:nm.length=m) (hc:X.calm=true) (hk:scope.kind = .function) (hok:zA9 X.N nm scope.names X.env.scope.names=true) (hi:SI X tg iter fl) (hkg:zDz X.N.length gd) (hg:∀ C s₃ H₃ ex,SG (yj X nm scope C s₃ H₃ ex) tg gd) (ht:∀ C s₃ H₃ ex,STs (yj X nm scope C s₃ H₃ ex) ifs p) (he:∀ C s₃ H₃ ex,SE (yj X nm scope C s₃ H₃ ex) elt f) (hN:X.N.Nodup) (hx:X.N[i]?=some x) (hloc:Loc X.env.scope x) (hsw:swapsWith (.ListComp elt [⟨tg,iter,ifs,0⟩] scope pos) (some (.Name x py)) spos.line X.env=pure true) (hf:fnL X x) (hs:∀ x,foldedSetIterable iter X.env x=pure x) (hfo:∀ {G0 H0 G H G' H':Hp} {ρ:Rho} {σ:L2.St} {a:Addr} {vs:List V} {ys:List D} {E:zKS},StR X.K G0 H0 G H ρ σ->zg G H G' H'->H a=none->G' a=none->H' a=some (.lst vs)->Reps X.K G' ys vs->zRo X.K G0 H0 E (fo ρ ys)->E.nx (σ.set i (some (.ref a))) H') :
  SS X (.Assign [.Name x py] (.ListComp elt [⟨tg,iter,ifs,0⟩] scope pos) spos) (λρ=>(zK m fl gd p f ρ).map (fo ρ)):=by
 intro pins s σ H E I h
 obtain ⟨G0,H0,G,ρ,o,st,ef,k⟩:=h
 obtain ⟨ys,ef1,rfl⟩:=Option.map_eq_some_iff.mp ef
 obtain ⟨ds,e1,e2⟩:=Option.bind_eq_some_iff.mp ef1
 split at e2
 ·rename_i hl
  subst hm
  have hclos:closureFor scope X.env=pure (zFl scope.names X.env.cells):=zCz λy hy hf=>I.ok.has y.1 ((qH hok hy).2.2.2 hf)
  rw [exec_Assign_Name_used _ _ _ _ hsw]
  refine wpAny_bind (wpAny_standAt (wpAny_bind ?_))
  show wpAny _ X.A (do let _ <- comprehension (.ListComp elt [⟨tg,iter,ifs,0⟩] scope pos) scope X.env _ (newList []) false (eval iter X.env) (some (assign (.Name x py) X.env))) _ _ s
  refine wpAny_bind (wpAny_mono (wpAny_comprehension_free (use:=some (assign (.Name x py) X.env)) (Q:=λ_ s'=>SP X pins E .next s') rfl hs hclos hk (λy hy=>(qH hok hy).2.2.1)
   (thn (hi pins s σ H _ I ⟨G,ρ,ds,st.bs.gh,st.er,e1,λJ G' H' t it=>(⟨G',t,it⟩:∃ G',zg G H G' H'/\zM5 X.K G' J ds)⟩) λv s1 h1=>thn h1 λitv s2 h2=>?_)) (λ_ s' hq=>wpAny_pure (wpAny_pure hq)) λ_ _ e=>e)
  obtain ⟨it,fp,tn,J,H2,rfl,I2,T,st2,f2,G2,t2,it2⟩:=h2
  refine zHN (RR:=λacc C=>compPost (model X.prog X.w) X.A X.xe (some (assign (.Name x py) X.env)) (λ_ s'=>SP X pins E .next s') acc C) hc hk hok hkg hg ht he I2 T st2 f2 t2.s (st.er.step t2) it2 (Nat.le_trans hl (by decide)) e2 λD C s' H' G' vs o t' nD gD hD rD=>?_
  show wpAny _ _ (assign (.Name x py) X.env (.ref D)) _ _ _
  refine wpAny_assign_Name (zGu (v:=.ref D) o.inv hN hx hloc rfl (λs'' I'' hsb=>?_) hf)
  obtain ⟨a,hsb,ha⟩:=hsb
  have hCa:C≠a:=by
   rcases ha with z|z
   ·rw [z];exact o.ne
   ·exact (o.cl x a z).symm
  refine ⟨_,o.ns.choose_spec.sameBut hsb hCa,λh' hs'=>⟨_,H',I''.turned (t':=s''.toks) (λb o hb e=>hs'.extBut b o hb e) o.fr o.ne (.inr o.sz) o.cl o.pn,?_⟩⟩
  exact hfo st (t2.trans t') (t2.h.free nD) gD hD rD k
 ·cases e2
variable {m:Nat} {x:Str} {py spos:Pos}
theorem zCF (i:Nat) (hm:nm.length=m) (hc:X.calm=true) (hk:scope.kind = .function) (hok:zA9 X.N nm scope.names X.env.scope.names=true) (hi:SI X tg iter fl) (hkg:zDz X.N.length gd)
  (hg:∀ C s₃ H₃ ex,SG (yj X nm scope C s₃ H₃ ex) tg gd) (ht:∀ C s₃ H₃ ex,STs (yj X nm scope C s₃ H₃ ex) ifs p) (he:∀ C s₃ H₃ ex,SE (yj X nm scope C s₃ H₃ ex) elt f)
  (hN:X.N.Nodup) (hx:X.N[i]?=some x) (hloc:Loc X.env.scope x)
  (hsw:swapsWith (.ListComp elt [⟨tg,iter,ifs,0⟩] scope pos) (some (.Name x py)) spos.line X.env=pure true:=by rfl)
  (hf:fnL X x:=by first|exact .inl rfl|exact .inr rfl|assumption) (hs:∀ x,foldedSetIterable iter X.env x=pure x:=by intro _;rfl) :
  SS X (.Assign [.Name x py] (.ListComp elt [⟨tg,iter,ifs,0⟩] scope pos) spos) (qJ i λρ=>(zK m fl gd p f ρ).map .lst):=by
 have:=zI9 (fo:=λρ ys=>.nx (ρ.set i (.v (.lst ys)))) hm hc hk hok hi hkg hg ht he hN hx hloc hsw hf hs (λ{G0 H0 G H G' H' ρ σ a vs ys E} st t h1 h2 h3 r k=>k _ _ _ ((st.step (zOs t h1 h2 h3)).setV (zAy.mpr ⟨a,vs,rfl,SqL.of zR,Reps.mono (yq h2) _ _ r⟩)))
 refine qN this λQ σ H ⟨G0,H0,G,ρ,o,st,ef,k⟩=>⟨G0,H0,G,ρ,o,st,?_,k⟩
 unfold qJ at ef
 rw [Option.map_map] at ef
 exact ef
theorem zIB (i:Nat) (hm:nm.length=m) (hc:X.calm=true) (hk:scope.kind = .function) (hok:zA9 X.N nm scope.names X.env.scope.names=true) (hi:SI X tg iter fl) (hkg:zDz X.N.length gd)
  (hg:∀ C s₃ H₃ ex,SG (yj X nm scope C s₃ H₃ ex) tg gd) (ht:∀ C s₃ H₃ ex,STs (yj X nm scope C s₃ H₃ ex) ifs p) (he:∀ C s₃ H₃ ex,SE (yj X nm scope C s₃ H₃ ex) elt f)
  (hN:X.N.Nodup) (hx:X.N[i]?=some x) (hloc:Loc X.env.scope x)
  (hsw:swapsWith (.ListComp elt [⟨tg,iter,ifs,0⟩] scope pos) (some (.Name x py)) spos.line X.env=pure true:=by rfl)
  (hf:fnL X x:=by first|exact .inl rfl|exact .inr rfl|assumption) (hs:∀ x,foldedSetIterable iter X.env x=pure x:=by intro _;rfl) :
  SS X (.Assign [.Name x py] (.ListComp elt [⟨tg,iter,ifs,0⟩] scope pos) spos) (qG i (zK m fl gd p f)):=
 zI9 (fo:=λρ ys=>.nx (ρ.set i (.l ys))) hm hc hk hok hi hkg hg ht he hN hx hloc hsw hf hs (λ{G0 H0 G H G' H' ρ σ a vs ys E} st t h1 h2 h3 r k=>k _ _ _ (st.setOwn t rfl h1 h2 (λxs z=>by cases z;exact ⟨vs,h3,r⟩) λ_ z=>by cases z))
end
section
variable {X:Cx} {κ:Nat->Addr} {C fi:Addr} {fd:FuncData} {ps:List Str} {e:Expr} {es:List Expr} {fl:ROl} {pos p cpos epos np hpos:Pos} {x xc y:Str} {k n:Nat} {F:Ob->List D->Option (Except Nat Ob)} {b₀:Stmt} {suite:List Stmt} {Fh:ROo}
end
def zJA (w:World):Bool:=w.params.followText "set-order"
def zHq (P:Program) (w:World) (h:Heap) (a:Addr) (ws:List Str):Prop:=∃ (o:Obj) (es:Array (Int×Value)) (ep:Nat) (t:SetTable) (us:List Str),h.get? a=some o/\o.ExactSet/\o.data = .set es ep t/\t.fits es.size=true/\(zJA w=false->t.led=true)/\(0<es.size->t.plain=false) /\
 ElemsOf (PySem.strKind P w) es.toList/\yI (us.map V.str) (es.toList.map (·.2))/\us.Perm ws
theorem zLj (t:SetTable) (n:Nat):(t.orStandIn n).led=t.led/\(t.plain=false->(t.orStandIn n).plain=false):=by
 unfold SetTable.orStandIn
 split
 ·exact ⟨rfl,id⟩
 ·exact ⟨rfl,λ_=>rfl⟩
theorem zQj (t:SetTable) (es:Array (Int×Value)) (h:Int) (x:Value):(layNew t es h x).2.1.led=t.led/\(t.plain=false->(layNew t es h x).2.1.plain=false):=by
 unfold layNew
 split
 ·rename_i sl wd e
  exact zLj (t.put sl).1 _
 ·exact ⟨rfl,λ_=>rfl⟩
theorem zLk (t:SetTable) (es:Array (Int×Value)) (n:Nat):(relayAll t es n).2.1.led=t.led/\(t.plain=false->(relayAll t es n).2.1.plain=false):=by
 unfold relayAll
 split
 ·rename_i t' order e
  unfold SetTable.relaid SetTable.laid at e
  cases q:SetTable.layClean (SetTable.sizeAbove n-1) (es.map (·.1)) with
  |none=>rw [q] at e;cases e
  |some ow=>
   rw [q] at e
   cases e
   simp only
   split
   ·exact ⟨rfl,id⟩
   ·exact ⟨rfl,λ_=>rfl⟩
 ·exact ⟨rfl,λ_=>rfl⟩
theorem zNo {us:List Str} {vs:List Value} (h:yI (us.map V.str) vs) {x:Str}:x∈us↔∃ v∈vs,v.isStr x=true:=by
 generalize e:us.map V.str=xs at h
 induction h generalizing us with
 |nil=>cases us with
  |nil=>simp
  |cons _ _=>cases e
 |@cons a v xs vs r h ih=>cases us with
  |nil=>cases e
  |cons y us=>
   rw [List.map_cons,List.cons.injEq] at e
   obtain ⟨rfl,e⟩:=e
   obtain ⟨t,rfl⟩:=r
   simp only [List.mem_cons,ih e,exists_eq_or_imp,Value.isStr,beq_iff_eq]
   exact or_congr ⟨λz=>z.symm,λz=>z.symm⟩ Iff.rfl
section
variable {P:Program} {w:World} {A:Around} {E:VSt} {s:Shared} {a:Addr} {ws:List Str}
theorem zC5 {us:List Str} {vs vs':List Value} (h:yI (us.map V.str) vs) (p:vs'.Perm vs):∃ us':List Str,yI (us'.map V.str) vs'/\us'.Perm us:=by
 induction p generalizing us with
 |nil=>exact ⟨us,h,.refl _⟩
 |@cons v l1 l2 p ih=>
  cases us with
  |nil=>cases h
  |cons x us=>cases h with
   |cons r h=>obtain ⟨us',h',p'⟩:=ih h;exact ⟨x::us',.cons r h',.cons _ p'⟩
 |swap v v' l=>
  cases us with
  |nil=>cases h
  |cons x us=>cases us with
   |nil=>cases h with|cons r h=>cases h
   |cons y us=>cases h with|cons r h=>cases h with|cons r' h=>exact ⟨y::x::us,.cons r' (.cons r h),.swap _ _ _⟩
 |trans p q ih1 ih2=>
  obtain ⟨u1,h1,p1⟩:=ih2 h
  obtain ⟨u2,h2,p2⟩:=ih1 h1
  exact ⟨u2,h2,p2.trans p1⟩
theorem zQk {x:Str} {k:Tok} {Q:Bool->Shared->Prop} (hS:zHq P w s.heap a ws) (hl:ws.length+1<scanBound) (h:∀ h' b,Heap.SameBut a s.heap h'->zHq P w h' a (if x∈ws then ws else ws ++ [x])->Q b { s with heap:=h' }) :
  wpAny (model P w) A (setAddHashed a (.str x k) ((PySem.strKind P w).hash x)) Q E s:=by
 obtain ⟨o,es,ep,t,us,ho,hx,hd,hf,led,pl,hel,hv,hp⟩:=hS
 have hk:(PySem.strKind P w).is x (.str x k)=true:=strKind_is P w x k
 have ls:es.size=ws.length:=by
  have:=hv.length
  rw [List.length_map,List.length_map] at this
  rw [<- hp.length_eq,this];exact Array.length_toList.symm
 have hb:es.size<scanBound:=by omega
 have mm:x∈ws↔∃ e∈es.toList,e.2.isStr x=true:=by
  rw [<- hp.mem_iff,zNo hv]
  exact ⟨by rintro ⟨v,hv,q⟩;obtain ⟨e,he,rfl⟩:=List.mem_map.mp hv;exact ⟨e,he,q⟩,λ⟨e,he,q⟩=>⟨_,List.mem_map_of_mem he,q⟩⟩
 have isx:∀ v,(PySem.strKind P w).is x v=v.isStr x:=λv=>(PySem.strKind P w).strs x x k v hk
 unfold setAddHashed setAddHashedIn
 refine wpAny_holding (wpAny_bind (wpAny_setState_of ho hd hf ?_))
 dsimp only
 rw [byScan_of rfl hb hel,if_pos rfl]
 unfold setAddByScan
 refine wpAny_bind (wpAny_bind (wpAny_rule (wpAny_bind (wpAny_setScan_of (knd:=PySem.strKind P w) hk ho hd hf hel ?_))))
 cases hr:List.findIdx? (λe=>(PySem.strKind P w).is x e.2) es.toList with
 |some j=>
  obtain ⟨hj,hpj,_⟩:=List.findIdx?_eq_some_iff_getElem.mp hr
  have hm:x∈ws:=mm.mpr ⟨_,List.getElem_mem hj,by rw [<- isx];exact hpj⟩
  have:=h s.heap false (Heap.SameBut.refl a s.heap) (by rw [if_pos hm];exact ⟨o,es,ep,t,us,ho,hx,hd,hf,led,pl,hel,hv,hp⟩)
  exact wpAny_pure (wpAny_pure this)
 |none=>
  have hm:x∉ws:=λz=>by
   obtain ⟨e,he,q⟩:=mm.mp z
   have:=List.findIdx?_eq_none_iff.mp hr e he
   rw [isx,q] at this;cases this
  rw [if_neg hm] at h
  have gw:∀ (b:Bool) {s1:Shared} {Q1:Unit->Shared->Prop},Q1 () s1->wpAny (model P w) A (match b with|true=>rule "set.scan.the-table-gave-way" | false=>pure ()) Q1 E s1:=λb s1 Q1 q=>by
   cases b
   ·exact wpAny_pure q
   ·exact wpAny_rule q
  have p1:=layNew_perm t es ((PySem.strKind P w).hash x) (.str x k)
  have f1:=layNew_fits t es ((PySem.strKind P w).hash x) (.str x k)
  have d1:=zQj t es ((PySem.strKind P w).hash x) (.str x k)
  generalize layNew t es ((PySem.strKind P w).hash x) (.str x k)=Z at p1 f1 d1 ⊢
  obtain ⟨es1,t1,wd,gv⟩:=Z
  dsimp only at p1 f1 d1 ⊢
  rw [Array.toList_push] at p1
  have e1:ElemsOf (PySem.strKind P w) es1.toList:=(hel.push hk rfl).perm p1
  obtain ⟨u1,v1,q1⟩:=zC5 (us:=us ++ [x]) (vs':=es1.toList.map (·.2)) (vs:=(es.toList ++ [((PySem.strKind P w).hash x,Value.str x k)]).map (·.2)) (by rw [List.map_append,List.map_append];exact hv.append (.cons ⟨k,rfl⟩ .nil)) (p1.map _)
  have q2:u1.Perm (ws ++ [x]):=q1.trans (hp.append_right _)
  have s1:es1.size=ws.length+1:=by rw [<- Array.length_toList,p1.length_eq,List.length_append,Array.length_toList,ls];rfl
  have b1:es1.size<scanBound:=by omega
  have tail:∀ (t2:SetTable),t2.fits es1.size=true->(zJA w=false->t2.led=true)->t2.plain=false->∀ {g:Bool->Sem Unit},(∀ (b:Bool) (s1:Shared) (Q1:Unit->Shared->Prop),Q1 () s1->wpAny (model P w) A (g b) Q1 E s1) ->
    ∀ {R:Option Bool->Shared->Prop},(∀ h',Heap.SameBut a s.heap h'->zHq P w h' a (ws ++ [x])->R (some true) { s with heap:=h' }) ->
    wpAny (model P w) A (do
     storeSet a es1 t2
     if (!wd && t2.tooFull)=true then do
         g (relayAll t2 es1 (SetTable.grown es1.size)).2.2
         storeSet a (relayAll t2 es1 (SetTable.grown es1.size)).1 (relayAll t2 es1 (SetTable.grown es1.size)).2.1
         pure (some true)
      else pure (some true)) R E s:=λt2 f2 l2 n2 g hg R hR=>by
   refine wpAny_bind (wpAny_storeSet_of ho hd ?_ (fits_of_scanBound b1))
   have put:∀ {h:Heap} {o:Obj} {es:Array (Int×Value)} {ep:Nat} {t:SetTable} (es':Array (Int×Value)) (t':SetTable),h.get? a=some o->o.data = .set es ep t->(h.update a (Obj.putSet es' t')).get? a=some { o with data:=.set es' (ep+1) t' }:=λ{h o es ep t} es' t' ho hd=>by
    have:=Heap.get?_update_self (Obj.putSet es' t') ho (by rw [putSet_of es' t' hd];rfl)
    rw [putSet_of es' t' hd] at this;exact this
   have g1:=put es1 t2 ho hd
   have sb:=Heap.SameBut.update s.heap a (Obj.putSet es1 t2)
   split
   ·have p3:=relayAll_perm t2 es1 (SetTable.grown es1.size)
    have f3:=relayAll_fits t2 es1 (SetTable.grown es1.size)
    have d3:=zLk t2 es1 (SetTable.grown es1.size)
    generalize relayAll t2 es1 (SetTable.grown es1.size)=Z at p3 f3 d3 ⊢
    obtain ⟨es2,t3,gv2⟩:=Z
    dsimp only at p3 f3 d3 ⊢
    have s2:es2.size=es1.size:=by rw [<- Array.length_toList,p3.length_eq,Array.length_toList]
    refine wpAny_bind (hg _ _ _ (wpAny_bind (wpAny_storeSet_of g1 rfl ?_ (fits_of_scanBound (by rw [s2];exact b1)))))
    obtain ⟨u3,v3,q3⟩:=zC5 v1 (p3.map (·.2))
    exact wpAny_pure (hR _ (sb.trans (Heap.SameBut.update _ a _)) ⟨_,es2,_,t3,u3,put es2 t3 g1 rfl,hx,rfl,f3,λz=>by rw [d3.1];exact l2 z,λ_=>d3.2 n2,e1.perm p3,v3,q3.trans q2⟩)
   ·exact wpAny_pure (hR _ sb ⟨_,es1,_,t2,u1,g1,hx,rfl,f2,l2,λ_=>n2,e1,v1,q2⟩)
  refine wpAny_bind (gw _ ?_)
  split
  ·refine wpAny_bind ?_
   rw [hashByValue_scannable 8 rfl]
   refine wpAny_pure ?_
   simp only [plainKind,Bool.false_eq_true,if_false]
   refine (tail _ (SetTable.fits_plain_off f1) (λz=>d1.1.trans (led z)) rfl (λb s1 Q1 q=>by cases b<;>first|exact wpAny_pure q|exact wpAny_rule q) λh' sb S'=>wpAny_pure (h h' true sb S'))
  ·rename_i np
   refine wpAny_bind (wpAny_pure ?_)
   simp only [if_true]
   refine (tail _ f1 (λz=>d1.1.trans (led z)) (by simpa using np) (λb s1 Q1 q=>by cases b<;>first|exact wpAny_pure q|exact wpAny_rule q) λh' sb S'=>wpAny_pure (h h' true sb S'))
end
def zRt (ws:List Str) (x:Str):List Str:=if x∈ws then ws else ws ++ [x]
def zGR (xs:List Str):List Str:=xs.foldl zRt []
theorem zNp {xs:List Str} {i:Nat} {x:Str} (h:xs[i]?=some x):zGR (xs.take (i+1))=zRt (zGR (xs.take i)) x:=by
 unfold zGR
 rw [List.take_add_one,h,List.foldl_append]
 rfl
theorem zNq (ws:List Str) (x:Str):(zRt ws x).length<=ws.length+1:=by unfold zRt;split<;>simp
theorem zHO:∀ (xs ws:List Str),(xs.foldl zRt ws).length<=ws.length+xs.length
 | [],ws=>by simp
 |x::xs,ws=>by
  have:=zHO xs (zRt ws x)
  have:=zNq ws x
  simp only [List.foldl_cons,List.length_cons];omega
theorem zJB (xs:List Str):(zGR xs).length<=xs.length:=by have:=zHO xs [];simpa [zGR] using this
section
variable {P:Program} {w:World} {A:Around} {E:VSt} {s:Shared} {R:Result->Shared->Prop} {I:Addr} {fp wr:List Addr} {Γ:Array GenState->Array GenState->Prop} {n:Nat} {p:Nat->Value->Prop} {St:Nat->Shared->Prop}
theorem zHq.at {h h':Heap} {a:Addr} {ws:List Str} (x:zHq P w h a ws) (k:∀ o,h.get? a=some o->h'.get? a=some o):zHq P w h' a ws:=by
 obtain ⟨o,es,ep,t,us,ho,r⟩:=x
 exact ⟨o,es,ep,t,us,k o ho,r⟩
theorem zNr (W:WalksS P w A.in1 I fp wr Γ n p St) (S:Addr) (hS:S∉fp) (xs:List Str) (hn:xs.length=n) (hv:∀ i v,p i v->∃ t x,xs[i]?=some x/\v = .str x t) (hb:n+1<scanBound) :
  ∀ (k i:Nat) (s:Shared),n-i=k->i<=n->St i s->zHq P w s.heap S (zGR (xs.take i))->(∀ s',Moved (S::wr) Γ s s'->zHq P w s'.heap S (zGR xs)->R (.ok (.ret .none)) s') ->
   codeAny (model P w) A (.builtin "set.update.loop" ⟨[.ref S,.ref I],[]⟩) R s:=by
 have hw:S∉wr:=λh=>hS (W.sub _ h)
 have sub:∀ b∈wr,b∈S::wr:=λb hb=>List.mem_cons_of_mem _ hb
 intro k
 induction k with
 |zero=>
  intro i s hk hi st L fin
  cases (show i=n by omega)
  refine codeAny_builtin PyProof.Rows.F.entry_set_update_loop ?_
  rw [Around.under_plainId PyProof.Rows.F.plain_set_update_loop _]
  refine wpAny_bind (W.done s _ _ st λs' mv=>wpAny_pure (fin s' (mv.mono sub) ?_))
  rw [<- hn,List.take_length] at L
  exact L.at λo e=>mv.heap S o hw e
 |succ k ih=>
  intro i s hk hi st L fin
  have lt:i<n:=by omega
  refine codeAny_builtin PyProof.Rows.F.entry_set_update_loop ?_
  rw [Around.under_plainId PyProof.Rows.F.plain_set_update_loop _]
  refine wpAny_bind (W.item i s _ _ lt st λv s' hp st' mv=>?_)
  obtain ⟨t,x,ex,rfl⟩:=hv i v hp
  refine wpAny_bind (wpAny_holding ?_)
  unfold setAdd
  refine wpAny_holding (wpAny_bind ((PySem.strKind P w).pyHash (k:=x) (strKind_is P w x t) ?_))
  have ll:=zJB (xs.take i)
  rw [List.length_take] at ll
  refine zQk (s:={ s' with toks:=s'.toks+1 }) (L.at λo e=>mv.heap S o hw e) (by omega) λh' b sb L'=>?_
  have L2:zHq P w h' S (zGR (xs.take (i+1))):=by rw [zNp ex];exact L'
  refine wpAny_pure ⟨plainId_quiet PyProof.Rows.F.plain_set_update_loop _,ih (i+1) _ (by omega) lt (W.frame _ s' _ _ st' (Nat.le_succ _) λb hb o e=>?_) L2 λs'' mv'' L''=>?_⟩
  ·rw [sb.2 b λh=>hS (h ▸ hb)];exact e
  ·refine fin s'' (Moved.trans W.gtrans ((mv.mono sub).then_heap (Nat.le_succ _) λb o hb e=>?_) mv'') L''
   rw [sb.2 b λh=>hb (h ▸ List.mem_cons_self)];exact e
theorem zQl (v:Value) {Q:VSt} (h:Q (.ref s.heap.objs.size) { s with heap:=s.heap.push { cls:=.type "set",dict:=none,data:=.set #[] 0 (.fresh 0 0 (!zJA w)) } }) :
  codeAny (model P w) A (.call (.builtin "set.__new__") ⟨[.type "set",v],[]⟩) (wants Q E) s:=by
 refine codeAny_of_tree (wpAny_bind (wpAny_of_eq (PySem.F.newCall_set_1 v) (wpAny_pure ⟨plainId_quiet PySem.F.plain_set_new _,codeAny_builtin PySem.F.entry_set_new ?_⟩)))
 rw [Around.under_plainId PySem.F.plain_set_new _]
 unfold Builtin.«set.__new__» Builtin.Frozenset.newClass
 have hsub:=sub_set_self
 obtain ⟨hp,g,d,tk,os⟩:=s
 dsimp only
 wp_walk
 refine wpAny_askSetting (wpAny_pure ?_)
 simp only [newObj]
 exact wpAny_bind (wpAny_alloc (wpAny_pure (wpAny_pure h)))
theorem zQm {xs:List Str} {vs:List Value} (h:yI (xs.map V.str) vs) {i:Nat} {v:Value} (e:vs[i]?=some v):∃ t x,xs[i]?=some x/\v = .str x t:=by
 generalize q:xs.map V.str=ys at h
 induction h generalizing xs i with
 |nil=>simp at e
 |cons r h ih=>cases xs with
  |nil=>cases q
  |cons x xs=>
   rw [List.map_cons,List.cons.injEq] at q
   obtain ⟨rfl,q⟩:=q
   cases i with
   |zero=>simp at e;subst e;obtain ⟨t,rfl⟩:=r;exact ⟨t,x,rfl,rfl⟩
   |succ i=>obtain ⟨t,y,a,b⟩:=ih (by simpa using e) q;exact ⟨t,y,by simpa using a,b⟩
theorem zNs {P:Program} {w:World} {A:Around} {E:VSt} {s:Shared} {S l:Addr} {b0:Bool} {od:Option Addr} {nl:Nat} {os:Array (Option Value)} {its:Array Value} {F:Fin->Shared->Prop}
  (hS:s.heap.get? S=some { cls:=.type "set",dict:=none,data:=.set #[] 0 (.fresh 0 0 b0) }) (hol:s.heap.get? l=some { cls:=.type "list",dict:=od,data:=.seq its nl,slots:=os })
  (h:wpAny (model P w) A (runValue (.builtin "set.update.loop" ⟨[.ref S,.ref s.heap.objs.size],[]⟩)) (λ_ s'=>F (.done (.ret .none)) s') E { s with heap:=s.heap.push { cls:=.type "list_iterator",data:=.fields #[.ref l,.int 0 0] } }) :
  wpAny (model P w) A (Builtin.«set.__init__» ⟨[.ref S,.ref l],[]⟩) F E s:=by
 have a1:=PySem.F.sub_list_set
 have a2:=PySem.F.sub_list_frozenset
 have a3:(Value.type "list" == Value.type "dict")=false:=by decide
 have hl1:s.heap.IsList l its:=⟨_,hol,rfl,nl,rfl⟩
 unfold Builtin.«set.__init__» noKeywords Builtin.Frozenset.updateFrom
 generalize hPI:pyIter=PI
 wp_walk
 subst hPI
 refine wpAny_pyIter_list hl1 ?_
 exact wpAny_bind (wpAny_mono h (λ_ s' q=>wpAny_pure (wpAny_pure q)) λ_ _ z=>z)
theorem zNt {l:Addr} {its:Array Value} {xs:List Str} {Q:VSt} (hh:A.handled=none) (hl:s.heap.IsList l its) (hi:yI (xs.map V.str) its.toList) (hb:its.size+1<scanBound)
  (h:∀ (h':Heap) (tk:Nat),zHq P w h' s.heap.objs.size (zGR xs)->(∀ b o,s.heap.get? b=some o->h'.get? b=some o)->Q (.ref s.heap.objs.size) { s with heap:=h',toks:=tk }) :
  wpAny (model P w) A (call (.type "set") [.ref l]) Q E s:=by
 obtain ⟨c,tl,hmro⟩:=PySem.F.called_set.mro
 have hmade:=PySem.F.called_set.made
 have hsub:=PySem.F.called_set.sub
 refine wpAny_call (codeAny_of_tree (wpAny_pure ⟨Code.quiet_builtin _ (by decide +kernel),codeAny_builtin PySem.F.entry_type_call ?_⟩))
 rw [Around.under_plain (weight_type_call_type "set" [.ref l] []) rfl]
 have h1:=PySem.F.called_set.notType
 have h2:=PySem.F.called_set.canCreate
 have h3:=PySem.F.typeCall_set_1 (.ref l)
 repeat (any_goals (first|assumption|wp_step))
 refine codeAny_mono (zQl (.ref l) (E:=E) (Q:=λu s1=>u = .ref s.heap.objs.size/\s1={ s with heap:=s.heap.push { cls:=.type "set",dict:=none,data:=.set #[] 0 (.fresh 0 0 (!zJA w)) } }) ⟨rfl,rfl⟩) λr s1 hr=>?_
 generalize hN:({ cls:=.type "set",dict:=none,data:=.set #[] 0 (.fresh 0 0 (!zJA w)) }:Obj)=N at hr
 cases r with
 |error e=>exact hr
 |ok fl=>
  cases fl with
  |ret u=>
   obtain ⟨rfl,rfl⟩:=hr
   have g0:(s.heap.push N).get? s.heap.objs.size=some N:=Heap.get?_push_size _ (by rw [<- hN];rfl)
   have hT:Shared.TypeIs { s with heap:=s.heap.push N } (.ref s.heap.objs.size) "set":=⟨N,g0,by rw [<- hN]⟩
   have hli:=PySem.F.called_set.init.lookup
   have hbi:=PySem.F.called_set.init.bind (.ref s.heap.objs.size)
   repeat (any_goals (first|assumption|wp_step))
   refine codeAny_mono (codeAny_call_builtin (R:=wants (λr s2=>r = .none/\∃ h' tk,s2={ s with heap:=h',toks:=tk }/\zHq P w h' s.heap.objs.size (zGR xs)/\∀ b o,s.heap.get? b=some o->h'.get? b=some o) E) PySem.F.called_set.init.plain PySem.F.entry_set_init (check_set_init_1 hT ?_)) λr2 s2 hr2=>?_
   ·obtain ⟨ol,hol,hcl,nl,hdl⟩:=hl
    obtain ⟨oc,od,odt,os⟩:=ol
    simp only at hcl hdl
    subst hcl;subst hdl
    have hol':(s.heap.push N).get? l=some { cls:=.type "list",dict:=od,data:=.seq its nl,slots:=os }:=Heap.get?_push_of_some _ hol
    have hl1:(s.heap.push N).IsList l its:=⟨_,hol',rfl,nl,rfl⟩
    have lt:l<s.heap.objs.size:=Heap.lt_size hol
    have sz:(s.heap.push N).objs.size=s.heap.objs.size+1:=Heap.size_push _ _
    have hh3:A.in1.in1.in1.handled=none:=by simp [hh]
    refine zNs (s:={ s with heap:=s.heap.push N }) (b0:=!zJA w) (by rw [hN];exact g0) hol' (wpAny_runValue ?_)
    refine zNr ((Walks.list hh3 _ l (by rw [sz];exact Nat.ne_of_lt (Nat.lt_succ_of_lt lt)) its).toS) s.heap.objs.size (by rw [sz];simp only [List.mem_cons,List.not_mem_nil,or_false,not_or];exact ⟨Nat.ne_of_lt (Nat.lt_succ_self _),Nat.ne_of_gt lt⟩) xs (by have:=hi.length;simpa using this) (λi v hv=>zQm hi (by rw [Array.getElem?_toList];exact hv)) hb (its.size-0) 0 _ (by omega) (Nat.zero_le _) ⟨⟨_,Heap.get?_push_size _ rfl,rfl,rfl⟩,hl1.push _⟩ ?_ ?_
    ·exact ⟨N,#[],0,.fresh 0 0 (!zJA w),[],Heap.get?_push_of_some _ g0,by rw [<- hN];exact ⟨rfl,rfl,rfl⟩,by rw [<- hN],rfl,λz=>by rw [z];rfl,λz=>by simp at z,λe he=>by simp at he,.nil,.refl _⟩
    ·intro s' mv L
     obtain ⟨h',g',d',tk',o'⟩:=s'
     cases (show g'=s.gens from mv.gens)
     cases (show d'=s.drawn from mv.drawn)
     cases (show o'=s.os from mv.os)
     refine ⟨rfl,h',tk',rfl,L,λb o e=>mv.heap b o ?_ (Heap.get?_push_of_some _ (Heap.get?_push_of_some _ e))⟩
     have:=Heap.lt_size e
     rw [sz];simp only [List.mem_cons,List.not_mem_nil,or_false,not_or];exact ⟨Nat.ne_of_lt this,Nat.ne_of_lt (Nat.lt_succ_of_lt this)⟩
   ·cases r2 with
    |error e=>exact hr2
    |ok fl2=>
     cases fl2 with
     |ret r=>
      obtain ⟨rfl,h',tk,rfl,L,k⟩:=hr2
      repeat (any_goals (first|assumption|wp_step))
      exact h _ _ L k
     |_=>exact hr2.elim
  |_=>exact hr.elim
end
theorem zCi:Slot "set_iterator" "__next__" "set_iterator.__next__":=.of (owner:="set_iterator") (n:="__next__") (by rw [typeLookup_type,builtinLookup_eq_fast];kernel_rfl) (by decide +kernel) (by decide +kernel) (by decide +kernel) (by first|exact .inl (by decide +kernel)|exact .inr (by decide +kernel)) (by rw [isSubtype_type];kernel_rfl)
theorem zJC:entryFor table "set_iterator.__next__" = some Builtin.«set_iterator.__next__»:=entryFor_of_tree (by kernel_rfl)
theorem zJD (a:Value):argsOk "set_iterator.__next__" ⟨[a],[]⟩:=by
 unfold argsOk
 first|kernel_rfl|(rw [signature?_eq_fast];kernel_rfl)
theorem zQn:entryFor table "set.__iter__" = some Builtin.«frozenset.__iter__»:=entryFor_alias (id':="frozenset.__iter__") (by kernel_rfl) rfl (by decide +kernel) (by kernel_rfl)
def ItO (h:Heap) (I S:Addr) (n ep:Nat) (f:Value) (i:Nat):Prop:=∃ oi,h.get? I=some oi/\oi.cls = .type "set_iterator"/\oi.data = .fields #[f,.int i 0,.ref S,.int n 0,.int ep 0]
section
variable {P:Program} {w:World} {A:Around} {E:VSt} {s:Shared} {I S:Addr} {ep i:Nat} {f:Value} {o:Obj} {es:Array (Int×Value)} {t:SetTable} {Q:Option Value->Shared->Prop}
theorem ItO.ty {n:Nat} (h:ItO s.heap I S n ep f i):s.TypeIs (.ref I) "set_iterator":=by
 obtain ⟨oi,a,b,_⟩:=h
 exact ⟨oi,a,b⟩
theorem zLl {vs:Array Value} {oi:Obj} {k:Nat} (hh:A.handled=none) (hi:s.heap.get? I=some oi) (hdi:oi.data = .fields vs) (hk:k<vs.size) (hQ:∀ h',Heap.ExtBut I s.heap h'->Q none { s with heap:=h' }) :
  wpAny (model P w) A.in1 (do setField (.ref I) k Value.none;let e <- newExc (.type "StopIteration") [];raiseNew e) (λfin s'=>∃ v,fin=PySem.Fin.done (.ret v)/\wpAny (model P w) A (pure (some v)) Q E s')
   (λe s'=>wpAny (model P w) A (do let b <- isInstance e (.type "StopIteration");if b=true then pure none else throw e) Q E s') s:=by
 refine wpAny_bind (wpAny_setField hi hdi hk (wpAny_bind ?_))
 simp only [newExc,newTuple]
 refine wpAny_bind (wpAny_newObj_type ?_ (by size_fits))
 refine wpAny_bind (m:=firstArgMember _ _) (wpAny_of_eq (a:=Value.none) (by first|rfl|(simp only [firstArgMember];rfl)) ?_)
 refine wpAny_newObj_type ?_ (by size_fits)
 simp only [raiseNew]
 refine wpAny_bind (wpAny_handled ?_)
 rw [show A.in1.handled=none from hh]
 refine wpAny_bind (wpAny_pure (wpAny_throw ?_))
 refine wpAny_bind (wpAny_isInstance (T:="StopIteration") (b:=true) ⟨_,Heap.get?_push_size _ rfl,rfl⟩ isSubtype_stop ?_)
 exact wpAny_pure (hQ _ (((Heap.SameBut.update ..).extBut.push _).push _))
theorem zGS {h:Heap} {oi:Obj} {vs:Array Value} (k:Nat) (v:Value) (hi:h.get? I=some oi) (hdi:oi.data = .fields vs):(h.update I (Obj.mapFields (·.setIfInBounds k v))).get? I=some { oi with data:=.fields (vs.setIfInBounds k v) }:=by
 have e:Obj.mapFields (·.setIfInBounds k v) oi={ oi with data:=.fields (vs.setIfInBounds k v) }:=by
  obtain ⟨c,d,dt,sl⟩:=oi;simp only at hdi;subst hdi;rfl
 have:=Heap.get?_update_self (Obj.mapFields (·.setIfInBounds k v)) hi (by rw [e];rfl)
 rw [e] at this;exact this
theorem zEL {slot:Nat} {r:Option (Value×Nat)} (hI:ItO s.heap I S es.size ep (.int slot 0) i) (ho:s.heap.get? S=some o) (hd:o.data = .set es ep t) (hf:t.fits es.size=true)
  (hn:∀ {A:Around} {E:VSt} {R:Option (Value×Nat)->Shared->Prop},R r s->wpAny (model P w) A (setNext S slot i ep) R E s)
  (h1:∀ x nx,r=some (x,nx)->∀ h',ItO h' I S es.size ep (.int nx 0) (i+1)->Heap.SameBut I s.heap h'->Q (some x) { s with heap:=h' })
  (h2:r=none->A.handled=none/\∀ h',Heap.ExtBut I s.heap h'->Q none { s with heap:=h' }):wpAny (model P w) A (pyNext (.ref I)) Q E s:=by
 obtain ⟨oi,hi,hc,hdi⟩:=id hI
 unfold pyNext
 refine wpAny_bind (wpAny_attempt (wpAny_callSpecial?_slot (name:=Str.ofString "__next__") hI.ty zCi (wpAny_call_entry zCi hI.ty zJC ?_ (zJD _))))
 unfold Builtin.«set_iterator.__next__»
 refine wpAny_bind (m:=slotArgs _ _ _) (wpAny_pure ?_)
 refine wpAny_bind (wpAny_fieldsOf hi hdi ?_)
 dsimp only
 refine wpAny_bind (wpAny_setEntries_of ho hd hf ?_)
 rw [if_neg (by simp)]
 refine wpAny_bind (hn ?_)
 cases r with
 |none=>exact zLl (h2 rfl).1 hi hdi (by simp) (h2 rfl).2
 |some q=>
  obtain ⟨x,nx⟩:=q
  refine wpAny_bind (wpAny_setField hi hdi (by simp) ?_)
  have g1:=zGS 0 (rawInt nx) hi hdi
  refine wpAny_bind (wpAny_setField g1 rfl (by simp) ?_)
  have g2:=zGS 1 (rawInt ((i:Int)+1)) g1 rfl
  exact wpAny_pure ⟨_,rfl,wpAny_pure (h1 x nx rfl _ ⟨_,g2,hc,by simp [rawInt]⟩ ((Heap.SameBut.update ..).trans (Heap.SameBut.update ..)))⟩
theorem zPC {ta:Addr} {ot:Obj} {pl:Array Value} {nn:Nat} (hI:ItO s.heap I S es.size ep (.ref ta) i) (ho:s.heap.get? S=some o) (hd:o.data = .set es ep t) (hf:t.fits es.size=true) (ht:s.heap.get? ta=some ot) (hdt:ot.data = .seq pl nn)
  (h1:∀ k x,pl[i]?=some (.int (k:Nat) 0)->es[k]?=some x->∀ h',ItO h' I S es.size ep (.ref ta) (i+1)->Heap.SameBut I s.heap h'->Q (some x.2) { s with heap:=h' })
  (h2:pl[i]?=none->A.handled=none/\∀ h',Heap.ExtBut I s.heap h'->Q none { s with heap:=h' }) (h3:pl[i]?=none\/∃ (k:Nat) (x:Int×Value),pl[i]?=some (.int k 0)/\es[k]?=some x):wpAny (model P w) A (pyNext (.ref I)) Q E s:=by
 obtain ⟨oi,hi,hc,hdi⟩:=id hI
 unfold pyNext
 refine wpAny_bind (wpAny_attempt (wpAny_callSpecial?_slot (name:=Str.ofString "__next__") hI.ty zCi (wpAny_call_entry zCi hI.ty zJC ?_ (zJD _))))
 unfold Builtin.«set_iterator.__next__»
 refine wpAny_bind (m:=slotArgs _ _ _) (wpAny_pure ?_)
 refine wpAny_bind (wpAny_fieldsOf hi hdi ?_)
 dsimp only
 refine wpAny_bind (wpAny_setEntries_of ho hd hf ?_)
 rw [if_neg (by simp)]
 unfold seqItems?
 dsimp only
 refine wpAny_bind (wpAny_bind (wpAny_load ht ?_))
 rw [hdt]
 refine wpAny_pure ?_
 simp only [Int.toNat_natCast]
 rcases h3 with h3|⟨k,x,h3,h4⟩
 ·rw [h3]
  dsimp only
  refine wpAny_bind (wpAny_setField hi hdi (by simp) ?_)
  exact zLl (s:={ s with heap:=_ }) (h2 h3).1 (zGS 0 (rawInt 0) hi hdi) rfl (by simp) λh' e=>(h2 h3).2 h' ((Heap.SameBut.update ..).extBut.trans e)
 ·rw [h3]
  dsimp only
  unfold setNextDrawn
  refine wpAny_bind (wpAny_bind (wpAny_setState_of ho hd hf ?_))
  simp only [Int.toNat_natCast,bne_self_eq_false,Bool.false_eq_true,if_false,h4]
  refine wpAny_pure ?_
  refine wpAny_bind (wpAny_setField hi hdi (by simp) ?_)
  have g1:=zGS 1 (rawInt ((i:Int)+1)) hi hdi
  exact wpAny_pure ⟨_,rfl,wpAny_pure (h1 k x h3 h4 _ ⟨_,g1,hc,by simp [rawInt]⟩ (Heap.SameBut.update ..))⟩
end
theorem zLm:Slot "set_iterator" "__iter__" "set_iterator.__iter__":=.of (owner:="set_iterator") (n:="__iter__") (by rw [typeLookup_type,builtinLookup_eq_fast];kernel_rfl) (by decide +kernel) (by decide +kernel) (by decide +kernel) (by first|exact .inl (by decide +kernel)|exact .inr (by decide +kernel)) (by rw [isSubtype_type];kernel_rfl)
theorem zNu:entryFor table "set_iterator.__iter__" = some Builtin.«dict_keyiterator.__iter__»:=entryFor_alias (id':="dict_keyiterator.__iter__") (by kernel_rfl) rfl (by decide +kernel) (by kernel_rfl)
theorem zNv (a:Value):argsOk "set_iterator.__iter__" ⟨[a],[]⟩:=by
 unfold argsOk
 first|kernel_rfl|(rw [signature?_eq_fast];kernel_rfl)
section
variable {P:Program} {w:World} {A:Around} {E:VSt} {s:Shared} {I S:Addr} {ep i n:Nat} {f:Value} {o:Obj} {es:Array (Int×Value)} {t:SetTable}
theorem zIC {Q:VSt} (hI:ItO s.heap I S n ep f i) (h:Q (.ref I) s):wpAny (model P w) A (pyIter (.ref I)) Q E s:=by
 refine wpAny_pyIter_slot hI.ty zLm (wpAny_call_entry zLm hI.ty zNu ?_ (zNv _))
 show wpAny _ _ (ret (.ref I)) _ _ s
 exact wpAny_pure ⟨_,rfl,"set_iterator",_,hI.ty,zCi.lookup,h⟩
theorem zID {α:Type}:∀ {l:List α} {i:Nat} (h:i<l.length),(l[i]::l.eraseIdx i).Perm l
 |x::l,0,h=>.refl _
 |x::l,i+1,h=>(List.Perm.swap _ _ _).trans (.cons x (zID (l:=l) (Nat.lt_of_succ_lt_succ h)))
theorem zLn {α:Type} (nx:Nat->Nat):∀ (m k:Nat) (l:List α) (out:Array α),l.length=m->(pickOrder.go nx m k l out).toList.Perm (out.toList++l)
 |0,k,l,out,h=>by
  cases List.length_eq_zero_iff.mp h
  simp [pickOrder.go]
 |m+1,k,l,out,h=>by
  have lt:nx k%l.length<l.length:=Nat.mod_lt _ (by omega)
  unfold pickOrder.go
  rw [List.getElem?_eq_getElem lt]
  refine (zLn nx m (k+1) _ _ (by rw [List.length_eraseIdx,if_pos lt];omega)).trans ?_
  rw [Array.toList_push,List.append_assoc]
  exact List.Perm.append_left _ ((zID lt))
theorem zLo {α:Type} (nx:Nat->Nat) (xs:Array α):(pickOrder nx xs).toList.Perm xs.toList:=by
 have:=zLn nx xs.size 0 xs.toList #[] (by simp)
 simpa [pickOrder] using this
theorem zQo {src:Source} {n:Nat} {Q:Nat->Shared->Prop} (hn:n≠0) (h:∀ k d,k<n->Q k { s with drawn:=d }):wpAny (model P w) A (choose src n) Q E s:=λΓ p hΓ=>
 ⟨hn,h _ _ (Nat.mod_lt _ (by omega))⟩
theorem zHP {α:Type}:∀ (m:Nat) (xs:List α) {s:Shared} {Q:List α->Shared->Prop},xs.length=m->(∀ ys d,ys.Perm xs->Q ys { s with drawn:=d })->wpAny (model P w) A (drawOrder m xs) Q E s
 |0,xs,s,Q,h,k=>by
  cases List.length_eq_zero_iff.mp h
  exact wpAny_pure (k [] s.drawn (.refl _))
 |m+1,[],s,Q,h,k=>by simp at h
 |m+1,x::xs,s,Q,h,k=>by
  unfold drawOrder
  refine wpAny_bind (zQo (by simp) λi d hi=>?_)
  rw [List.getElem?_eq_getElem hi]
  refine wpAny_bind (zHP m _ (by rw [List.length_eraseIdx,if_pos hi];omega) λys d' p=>wpAny_pure ?_)
  exact k _ d' ((List.Perm.cons _ p).trans (zID hi))
theorem ItO.at {h h':Heap} (x:ItO h I S n ep f i) (k:∀ o,h.get? I=some o->h'.get? I=some o):ItO h' I S n ep f i:=by
 obtain ⟨oi,a,b⟩:=x
 exact ⟨oi,k oi a,b⟩
theorem zJy {α:Type} (l:List α) (z:α):(List.range l.length).map (λk=>l.getD k z)=l:=by
 refine List.ext_getElem (by simp) λi h1 h2=>?_
 simp [List.getD,h2]
theorem zSr {ta:Addr} {ot:Obj} {ys:List Nat} (hh:A.handled=none) (hIS:S≠I) (hIt:ta≠I) (hd:o.data = .set es ep t) (hf:t.fits es.size=true) (hdt:ot.data = .seq (ys.map λ(i:Nat)=>rawInt (i:Int)).toArray) (hy:∀ k∈ys,k<es.size) :
  Walks P w A I [I,S,ta] [I] ys.length (λi v=>(ys.map λk=>(es.toList.map (·.2)).getD k .none)[i]?=some v) (λi h=>ItO h I S es.size ep (.ref ta) i/\h.get? S=some o/\h.get? ta=some ot) where
 sub:=λb hb=>by simp at hb;simp [hb]
 frame:=λ_ _ _ st k=>⟨st.1.at λo e=>k I (by simp) o e,k S (by simp) o st.2.1,k ta (by simp) ot st.2.2⟩
 item:=λi s Q E hi st hQ=>by
  have gp:(ys.map λ(i:Nat)=>rawInt (i:Int)).toArray[i]?=some (.int (ys[i]:Nat) 0):=by simp [hi,rawInt]
  have hk:=hy _ (List.getElem_mem hi)
  refine zPC st.1 st.2.1 hd hf st.2.2 hdt (λk x e1 e2 h' I' sb=>?_) (λe=>by rw [gp] at e;cases e) (.inr ⟨_,es[ys[i]],gp,by simp [hk]⟩)
  rw [gp] at e1
  have ek:k=ys[i]:=by have:=e1.symm;simp at this;exact Int.ofNat.inj this
  refine hQ x.2 h' s.toks ?_ ⟨I',by rw [sb.2 S hIS];exact st.2.1,by rw [sb.2 ta hIt];exact st.2.2⟩ λb o nb e=>by rw [sb.2 b λz=>nb (by simp [z])];exact e
  subst ek
  have e3:es.toList[ys[i]]?=some x:=by rw [Array.getElem?_toList];exact e2
  rw [Array.getElem?_toList] at e3
  simp [hi,List.getD,e3]
 done:=λs Q E st hQ=>by
  refine zPC st.1 st.2.1 hd hf st.2.2 hdt (λk x e1=>by simp at e1) (λ_=>⟨hh,λh' e=>hQ h' s.toks λb o nb q=>e b o (λz=>nb (by simp [z])) q⟩) (.inl (by simp))
 self:=λ_ _ _ _ st hQ=>zIC st.1 hQ
theorem zLp {slot:Nat} (ho:s.heap.get? S=some o) (hd:o.data = .set es ep t) (hf:t.fits es.size=true) (hb:zJA w=true) {R:Option (Value×Nat)->Shared->Prop} (h:R (((pickOrder (w.params.setOrder S ep) es)[i]?).map λe=>(e.2,slot)) s) :
  wpAny (model P w) A (setNext S slot i ep) R E s:=by
 unfold setNext setsByText
 refine wpAny_bind (wpAny_setState_of ho hd hf (wpAny_bind (wpAny_bind (wpAny_askSetting (wpAny_pure ?_)))))
 refine wpAny_ite_split (λ_=>?_) (λhc=>absurd hb hc)
 dsimp only
 rw [if_neg (by simp)]
 unfold setWalk setsByText
 refine wpAny_bind (wpAny_bind (wpAny_setState_of ho hd hf (wpAny_bind (wpAny_bind (wpAny_askSetting (wpAny_pure ?_))))))
 refine wpAny_ite_split (λ_=>?_) (λhc=>absurd hb hc)
 exact wpAny_bind (wpAny_askSetting (wpAny_pure (wpAny_pure h)))
theorem zSs (hh:A.handled=none) (hIS:S≠I) (hd:o.data = .set es ep t) (hf:t.fits es.size=true) (hb:zJA w=true) :
  Walks P w A I [I,S] [I] ((pickOrder (w.params.setOrder S ep) es).toList.map (·.2)).length (λi v=>((pickOrder (w.params.setOrder S ep) es).toList.map (·.2))[i]?=some v) (λi h=>ItO h I S es.size ep (.int (0:Nat) 0) i/\h.get? S=some o) where
 sub:=λb hb=>by simp at hb;simp [hb]
 frame:=λ_ _ _ st k=>⟨st.1.at λo e=>k I (by simp) o e,k S (by simp) o st.2⟩
 item:=λi s Q E hi st hQ=>by
  refine zEL st.1 st.2 hd hf (λh=>zLp st.2 hd hf hb h) (λx nx e h' I' sb=>?_) λe=>?_
  ·obtain ⟨q,e1,e2⟩:=Option.map_eq_some_iff.mp e
   cases e2
   exact hQ q.2 h' s.toks (by rw [List.getElem?_map,Array.getElem?_toList,e1];rfl) ⟨I',by rw [sb.2 S hIS];exact st.2⟩ λb o nb e=>by rw [sb.2 b λz=>nb (by simp [z])];exact e
  ·rw [Option.map_eq_none_iff] at e
   rw [List.length_map,Array.length_toList] at hi
   simp at e;omega
 done:=λs Q E st hQ=>by
  refine zEL st.1 st.2 hd hf (λh=>zLp st.2 hd hf hb h) (λx nx e=>?_) λe=>⟨hh,λh' e=>hQ h' s.toks λb o nb q=>e b o (λz=>nb (by simp [z])) q⟩
  obtain ⟨q,e1,_⟩:=Option.map_eq_some_iff.mp e
  simp at e1
 self:=λ_ _ _ _ st hQ=>zIC st.1 hQ
theorem zJE {slot:Nat} (ho:s.heap.get? S=some o) (hd:o.data = .set es ep t) (hf:t.fits es.size=true) (hb:zJA w=false) (hl:t.led=true) (hs:es.size<=1) {R:Option (Value×Nat)->Shared->Prop}
  (h:R (match es[SetTable.below t.place slot]?,t.place[SetTable.below t.place slot]? with|some (_,x),some j=>some (x,j+1)|_,_=>none) s):wpAny (model P w) A (setNext S slot i ep) R E s:=by
 unfold setNext setsByText
 refine wpAny_bind (wpAny_setState_of ho hd hf (wpAny_bind (wpAny_bind (wpAny_askSetting (wpAny_pure ?_)))))
 refine wpAny_ite_split (λhc=>absurd (show zJA w=true from hc) (by rw [hb];simp)) (λ_=>?_)
 dsimp only
 refine wpAny_ite_split (λhc=>?_) (λhc=>?_)
 ·have hc':(!t.plain && decide (es.size>1))=true:=hc
  simp at hc';omega
 ·refine wpAny_bind (show wpAny _ _ (if (!t.led && !es.isEmpty)=true then unsupported "set:maker-not-led" else pure PUnit.unit) _ _ _ from ?_)
  rw [hl,Bool.not_true,Bool.false_and,if_neg (by simp)]
  exact wpAny_pure (wpAny_pure h)
theorem zLq (xs:Array Nat) (h:xs.size<=1):SetTable.below xs 0=0:=by
 have:xs.size=0\/xs.size=1:=by omega
 unfold SetTable.below
 rcases this with e|e<;>rw [e]<;>simp [SetTable.below.go]
theorem zQp (p:Nat):SetTable.below #[p] (p+1)=1:=by
 unfold SetTable.below
 simp [SetTable.below.go]
theorem zSt (hh:A.handled=none) (hIS:S≠I) (hd:o.data = .set es ep t) (hf:t.fits es.size=true) (hb:zJA w=false) (hl:t.led=true) (hs:es.size<=1) :
  Walks P w A I [I,S] [I] (es.toList.map (·.2)).length (λi v=>(es.toList.map (·.2))[i]?=some v) (λi h=>h.get? S=some o/\∃ slot:Nat,ItO h I S es.size ep (.int slot 0) i/\(i=0->slot=0)/\(i=1->∃ p,t.place = #[p]/\slot=p+1)):=by
 have ps:t.place.size=es.size:=by simp [SetTable.fits] at hf;exact hf.1
 refine ⟨λb hb=>by simp at hb;simp [hb],λ_ _ _ st k=>?_,λi s Q E hi st hQ=>?_,λs Q E st hQ=>?_,λ_ _ _ _ st hQ=>?_⟩
 ·obtain ⟨a,sl,b,c⟩:=st
  exact ⟨k S (by simp) o a,sl,b.at λo e=>k I (by simp) o e,c⟩
 ·obtain ⟨a,sl,b,c,_⟩:=st
  rw [List.length_map,Array.length_toList] at hi
  have i0:i=0:=by omega
  subst i0
  have:=c rfl
  subst this
  have e1:es.size=1:=by omega
  obtain ⟨p,ep'⟩:∃ p,t.place = #[p]:=by
   have:t.place.toList.length=1:=by rw [Array.length_toList];omega
   match q:t.place.toList,this with
   | [p],_=>exact ⟨p,by rw [<- Array.toArray_toList (xs:=t.place),q]⟩
  obtain ⟨e,ee⟩:∃ e,es = #[e]:=by
   have:es.toList.length=1:=by rw [Array.length_toList];omega
   match q:es.toList,this with
   | [p],_=>exact ⟨p,by rw [<- Array.toArray_toList (xs:=es),q]⟩
  refine zEL (r:=some (e.2,p+1)) b a hd hf (λh=>zJE a hd hf hb hl hs (by rw [zLq _ (by omega),ep',ee];exact h)) (λx nx q h' I' sb=>?_) λz=>by cases z
  cases q
  exact hQ e.2 h' s.toks (by rw [ee];rfl) ⟨by rw [sb.2 S hIS];exact a,p+1,I',λz=>by simp at z,λ_=>⟨p,ep',rfl⟩⟩ λb o nb e=>by rw [sb.2 b λz=>nb (by simp [z])];exact e
 ·obtain ⟨a,sl,b,c0,c1⟩:=st
  rw [List.length_map,Array.length_toList] at b c0 c1
  have bl:SetTable.below t.place sl=es.size:=by
   have:es.size=0\/es.size=1:=by omega
   rcases this with z|z
   ·rw [c0 z,zLq _ (by omega),z]
   ·obtain ⟨p,e1,e2⟩:=c1 z
    rw [e1,e2,zQp,z]
  exact zEL (r:=none) b a hd hf (λh=>zJE a hd hf hb hl hs (by rw [bl];simpa using h)) (λx nx q=>by cases q) λ_=>⟨hh,λh' e=>hQ h' s.toks λb o nb q=>e b o (λz=>nb (by simp [z])) q⟩
 ·obtain ⟨_,_,b,_⟩:=st;exact zIC b hQ
end
section
variable {P:Program} {w:World} {A:Around} {E:VSt} {s:Shared} {S:Addr} {ws:List Str}
theorem zNw (hh:A.handled=none) (hS:zHq P w s.heap S ws) (hl:ws.length<scanBound) {Q:VSt}
  (h:∀ (I:Addr) (fp:List Addr) (vs:List Value) (us:List Str) (St:Nat->Heap->Prop) (h':Heap) (d:Drawn),(∀ b o,s.heap.get? b=some o->h'.get? b=some o)->s.heap.objs.size<=I->(∀ b∈fp,b=S\/s.heap.objs.size<=b)->Walks P w A I fp [I] vs.length (λi v=>vs[i]?=some v) St->St 0 h' ->
   yI (us.map V.str) vs->us.Perm ws->Q (.ref I) { s with heap:=h',drawn:=d }):wpAny (model P w) A (pyIter (.ref S)) Q E s:=by
 obtain ⟨o,es,ep,t,us,ho,hx,hd,hf,led,pl,hel,hv,hp⟩:=hS
 have hT:s.TypeIs (.ref S) "set":=⟨o,ho,hx.1⟩
 have ltS:=Heap.lt_size ho
 have vl:=hv.length
 rw [List.length_map,List.length_map] at vl
 replace vl:us.length=es.size:=vl.trans Array.length_toList
 have fits:es.size<=sizeLine:=fits_of_scanBound (by rw [<- vl,hp.length_eq];exact hl)
 refine wpAny_pyIter_slot hT PySem.F.slot_set_iter (wpAny_call_entry PySem.F.slot_set_iter hT zQn ?_ (PySem.F.args_set_iter_1 _))
 unfold Builtin.«frozenset.__iter__» Builtin.Frozenset.slot0
 refine wpAny_bind (wpAny_bind (m:=slotArgs _ _ _) (wpAny_pure (wpAny_pure ?_)))
 unfold Builtin.Frozenset.sizeOf
 refine wpAny_bind (wpAny_bind (wpAny_setEntries_of ho hd hf (wpAny_pure ?_)))
 unfold setDrawn setsByText
 refine wpAny_bind (wpAny_bind (wpAny_setState_of ho hd hf (wpAny_bind (wpAny_bind (wpAny_askSetting (wpAny_pure (wpAny_pure ?_)))))))
 refine wpAny_ite_split (λhc=>?_) (λhc=>?_)
 ·refine wpAny_bind (zHP es.size (List.range es.size) (by simp) λys d p=>?_)
  have yl:ys.length=es.size:=by rw [p.length_eq];simp
  refine wpAny_bind (wpAny_newTuple ?_ (by rw [List.length_map,yl];exact fits))
  refine wpAny_bind (wpAny_setEpoch_of (Heap.get?_push_of_some _ ho) hd hf ?_)
  refine wpAny_bind (wpAny_newObj_type (wpAny_pure ⟨_,rfl,"set_iterator",_,⟨_,Heap.get?_push_size _ rfl,rfl⟩,zCi.lookup,?_⟩))
  have pv:(ys.map λk=>(es.toList.map (·.2)).getD k .none).Perm (es.toList.map (·.2)):=by
   refine (p.map _).trans ?_
   have:=zJy (es.toList.map (·.2)) Value.none
   rw [List.length_map,Array.length_toList] at this
   rw [this]
  obtain ⟨us',v',p'⟩:=zC5 hv pv
  have sz:=Heap.size_push s.heap { cls:=.type "tuple",data:=.seq (ys.map λ(i:Nat)=>rawInt (i:Int)).toArray }
  have W:=zSr (P:=P) (w:=w) (A:=A) (I:=(s.heap.push { cls:=.type "tuple",data:=.seq (ys.map λ(i:Nat)=>rawInt (i:Int)).toArray }).objs.size) (S:=S) (ta:=s.heap.objs.size) (ot:={ cls:=.type "tuple",data:=.seq (ys.map λ(i:Nat)=>rawInt (i:Int)).toArray }) (ys:=ys) hh (by rw [sz];exact Nat.ne_of_lt (Nat.lt_succ_of_lt ltS)) (by rw [sz];exact Nat.ne_of_lt (Nat.lt_succ_self _)) hd hf rfl (λk hk=>by simpa using p.mem_iff.mp hk)
  rw [<- List.length_map (as:=ys) (f:=λk=>(es.toList.map (·.2)).getD k Value.none)] at W
  refine h _ _ _ us' _ _ d (λb o e=>Heap.get?_push_of_some _ (Heap.get?_push_of_some _ e)) (by rw [sz];exact Nat.le_succ _) (λb hb=>?_) W ⟨⟨_,Heap.get?_push_size _ rfl,rfl,rfl⟩,Heap.get?_push_of_some _ (Heap.get?_push_of_some _ ho),Heap.get?_push_of_some _ (Heap.get?_push_size _ rfl)⟩ v' (p'.trans hp)
  simp only [List.mem_cons,List.not_mem_nil,or_false] at hb
  rcases hb with rfl|rfl|rfl
  ·right;rw [sz];exact Nat.le_succ _
  ·exact .inl rfl
  ·exact .inr (Nat.le_refl _)
 ·have hc':¬ (!zJA w && (!t.plain && decide (es.size>1)))=true:=hc
  refine wpAny_bind (wpAny_pure ?_)
  refine wpAny_bind (wpAny_setEpoch_of ho hd hf ?_)
  refine wpAny_bind (wpAny_newObj_type (wpAny_pure ⟨_,rfl,"set_iterator",_,⟨_,Heap.get?_push_size _ rfl,rfl⟩,zCi.lookup,?_⟩))
  have fr:∀ b∈[s.heap.objs.size,S],b=S\/s.heap.objs.size<=b:=λb hb=>by
   simp only [List.mem_cons,List.not_mem_nil,or_false] at hb
   rcases hb with rfl|rfl
   ·exact .inr (Nat.le_refl _)
   ·exact .inl rfl
  cases hb:zJA w with
  |true=>
   obtain ⟨us',v',p'⟩:=zC5 hv ((zLo (w.params.setOrder S ep) es).map (·.2))
   exact h _ _ _ us' _ _ s.drawn (λb o e=>Heap.get?_push_of_some _ e) (Nat.le_refl _) fr (zSs hh (Nat.ne_of_lt ltS) hd hf hb) ⟨⟨_,Heap.get?_push_size _ rfl,rfl,rfl⟩,Heap.get?_push_of_some _ ho⟩ v' (p'.trans hp)
  |false=>
   have hs:es.size<=1:=by
    by_cases z:0<es.size
    ·simp [hb,pl z] at hc';omega
    ·omega
   exact h _ _ _ us _ _ s.drawn (λb o e=>Heap.get?_push_of_some _ e) (Nat.le_refl _) fr (zSt hh (Nat.ne_of_lt ltS) hd hf hb (led hb) hs) ⟨Heap.get?_push_of_some _ ho,0,⟨_,Heap.get?_push_size _ rfl,rfl,rfl⟩,λ_=>rfl,λz=>by simp at z⟩ hv hp
theorem zNx {Q:Bool->Shared->Prop} (hT:s.TypeIs (.ref S) "set") (h:Q false s):wpAny (model P w) A (Builtin.List.listLengthHint (.ref S)) Q E s:=by
 unfold Builtin.List.listLengthHint
 refine wpAny_bind (wpAny_specialOf hT PySem.F.slot_set_len.lookup ?_)
 generalize hid:("set.__len__" : String)=id0
 wp_delta
 rw [show splitId id0=some ("set","__len__") from by subst hid;decide +kernel]
 subst hid
 refine wpAny_bind (wpAny_isInstance (T:="set") (b:=true) hT (by rw [isSubtype_type];kernel_rfl) ?_)
 refine wpAny_ite_split (λq=>absurd q (by decide)) (λ_=>?_)
 refine wpAny_ite_split (λ_=>?_) (λq=>absurd (by decide +kernel) q)
 exact wpAny_bind (wpAny_typeOf hT (wpAny_pure h))
theorem zNy {vs:List Value} {acc:Array Value} (h:ItemsOf (λi v=>vs[i]?=some v) acc vs.length):acc.toList=vs:=by
 refine List.ext_getElem (by rw [Array.length_toList];exact h.1) λi h1 h2=>?_
 have:vs[i]?=some acc.toList[i]:=h.2 i acc.toList[i] (by rw [<- Array.getElem?_toList];exact List.getElem?_eq_getElem h1)
 rw [List.getElem?_eq_getElem h2] at this
 exact (Option.some.inj this).symm
theorem zIE (hh:A.handled=none) (hS:zHq P w s.heap S ws) (hl:ws.length<scanBound) {R:List Value->Shared->Prop}
  (h:∀ (h':Heap) (tk:Nat) (d:Drawn) (vs:List Value) (us:List Str),(∀ b o,s.heap.get? b=some o->h'.get? b=some o)->yI (us.map V.str) vs->us.Perm ws->R vs { s with heap:=h',toks:=tk,drawn:=d }):wpAny (model P w) A (collect (.ref S)) R E s:=by
 have ltS:S<s.heap.objs.size:=by obtain ⟨o,_,_,_,_,ho,_⟩:=hS;exact Heap.lt_size ho
 unfold collect
 refine wpAny_bind (wpAny_runValue (codeAny_builtin entry_proto_collect' ?_))
 rw [Around.under_plainId PySem.F.plain_proto_collect _]
 show wpAny _ A.in1 (newList [] >>= λl=>again (.builtin "list.__iadd__" ⟨[l,.ref S],[]⟩)) _ _ s
 refine wpAny_bind (wpAny_newObj_type ?_)
 refine wpAny_pure ⟨plainId_quiet PySem.F.plain_list_iadd _,codeAny_builtin entry_list_iadd' ?_⟩
 rw [Around.under_plainId PySem.F.plain_list_iadd _]
 show wpAny _ A.in1 (Builtin.List.listExtendWith (.ref s.heap.objs.size) (.ref S) (.ref s.heap.objs.size)) _ _ _
 have gL:(s.heap.push { cls:=.type "list",data:=.seq ([]:List Value).toArray }).get? s.heap.objs.size=some { cls:=.type "list",data:=.seq #[] }:=Heap.get?_push_size _ rfl
 have S1:zHq P w (s.heap.push { cls:=.type "list",data:=.seq ([]:List Value).toArray }) S ws:=hS.at λo e=>Heap.get?_push_of_some _ e
 have tyS:∀ {s1:Shared},zHq P w s1.heap S ws->s1.TypeIs (.ref S) "set":=λ{s1} q=>by obtain ⟨o,_,_,_,_,ho,hx,_⟩:=q;exact ⟨o,ho,hx.1⟩
 have nLS:s.heap.objs.size≠S:=Nat.ne_of_gt ltS
 unfold Builtin.List.listExtendWith
 refine wpAny_bind (wpAny_typeOf (T:="set") (tyS S1) ?_)
 have e1:Builtin.List.listSameRef (.ref s.heap.objs.size) (.ref S)=false:=by simp [Builtin.List.listSameRef,nLS]
 have e2:(Value.type "set" == Value.type "list")=false:=by decide
 have e3:(Value.type "set" == Value.type "tuple")=false:=by decide
 simp only [e1,e2,e3,Bool.or_false,Bool.false_eq_true,if_false]
 have sz:=Heap.size_push s.heap { cls:=.type "list",data:=.seq ([]:List Value).toArray }
 refine wpAny_bind (zNw (A:=A.in1) (s:={ s with heap:=s.heap.push { cls:=.type "list",data:=.seq ([]:List Value).toArray } }) hh S1 hl λI fp vs us St h' d hk hI hfp W st0 v p=>?_)
 have gL1:=hk _ _ gL
 have nf:s.heap.objs.size∉fp:=λz=>by
  rcases hfp _ z with q|q
  ·exact nLS q
  ·simp only [sz] at q;exact absurd q (Nat.not_succ_le_self _)
 have vl:vs.length<=sizeLine:=by
  have:=v.length
  rw [List.length_map] at this
  exact fits_of_scanBound (by rw [<- this,p.length_eq];exact hl)
 have key:∀ (h2:Heap) (tk c:Nat),St 0 h2->(∀ b o,b≠s.heap.objs.size->h'.get? b=some o->h2.get? b=some o)->h2.get? s.heap.objs.size=some { cls:=.type "list",data:=.seq #[] c } ->
   codeAny (model P w) A (.builtin "list.extend.loop" ⟨[.ref s.heap.objs.size,.ref I,.ref s.heap.objs.size],[]⟩) (λr s'=>∃ h3 tk' c',r = .ok (.ret (.ref s.heap.objs.size))/\s'={ s with heap:=h3,toks:=tk',drawn:=d }/\(∀ b o,s.heap.get? b=some o->h3.get? b=some o)/\h3.get? s.heap.objs.size=some { cls:=.type "list",dict:=none,data:=.seq vs.toArray c',slots:=#[] }) { s with heap:=h2,toks:=tk,drawn:=d }:=λh2 tk c st k2 g2=>by
  refine codeAny_extend_loopS W.toS vl s.heap.objs.size nf (.ref s.heap.objs.size) vs.length 0 _ #[] c rfl (Nat.zero_le _) st g2 (ItemsOf.nil _) λs' acc c' mv gl ia=>?_
  obtain ⟨h3,g',d',tk',o'⟩:=s'
  cases (show g'=s.gens from mv.gens)
  cases (show d'=d from mv.drawn)
  cases (show o'=s.os from mv.os)
  have ea:=zNy ia
  refine ⟨h3,tk',c',rfl,rfl,λb o e=>?_,by rw [<- ea];simpa using gl⟩
  have lb:=Heap.lt_size e
  refine mv.heap b o ?_ (k2 b o (Nat.ne_of_lt lb) (hk b o (Heap.get?_push_of_some _ e)))
  simp only [List.mem_cons,List.not_mem_nil,or_false,not_or]
  exact ⟨Nat.ne_of_lt lb,Nat.ne_of_lt (Nat.lt_of_lt_of_le lb (Nat.le_trans (by rw [sz];exact Nat.le_succ _) hI))⟩
 refine wpAny_bind (wpAny_holding (zNx (tyS (S1.at λo e=>hk _ _ e)) ?_))
 have fin:∀ {r:Result} {s':Shared},(∃ h3 tk' c',r = .ok (.ret (.ref s.heap.objs.size))/\s'={ s with heap:=h3,toks:=tk',drawn:=d }/\(∀ b o,s.heap.get? b=some o->h3.get? b=some o)/\h3.get? s.heap.objs.size=some { cls:=.type "list",dict:=none,data:=.seq vs.toArray c',slots:=#[] }) ->
   (match r with | .ok (.ret u)=>wpAny (model P w) A (match u with | .ref a=>(do let o <- load a;match o.data with | .seq xs _=>pure xs.toList|_=>unsupported "internal:collect")|_=>unsupported "internal:collect") R E s' | .ok _=>False | .error e=>E e s'):=λ{r s'} q=>by
  obtain ⟨h3,tk',c',rfl,rfl,k3,g3⟩:=q
  refine wpAny_bind (wpAny_load g3 ?_)
  exact wpAny_pure (by simpa using h h3 tk' d vs us k3 v p)
 refine wpAny_ite_split (λ_=>?_) (λ_=>?_)
 ·refine wpAny_bind (wpAny_rule ?_)
  refine wpAny_bind ?_
  show wpAny _ _ (updateSeq s.heap.objs.size (·.push .none) >>= λ_=>updateSeq s.heap.objs.size (·.pop)) _ _ _
  refine wpAny_bind (wpAny_updateSeq gL1 rfl ?_)
  have g2:=Heap.get?_update_self (Obj.mapSeq (·.push Value.none)) gL1 rfl
  refine wpAny_updateSeq (hz:=by seq_fits) g2 rfl ?_
  have g3:=Heap.get?_update_self (Obj.mapSeq (·.pop)) g2 rfl
  refine wpAny_pure ⟨plainId_quiet PySem.F.plain_extend_loop _,codeAny_mono (key _ _ _ ?_ (λb o nb e=>?_) g3) λr s' q=>fin q⟩
  ·refine W.frame 0 _ _ st0 λb hb o e=>?_
   have nb:b≠s.heap.objs.size:=λz=>nf (z ▸ hb)
   exact (Heap.get?_update_other _ _ (Ne.symm nb)).trans ((Heap.get?_update_other _ _ (Ne.symm nb)).trans e)
  ·exact (Heap.get?_update_other _ _ (Ne.symm nb)).trans ((Heap.get?_update_other _ _ (Ne.symm nb)).trans e)
 ·exact wpAny_pure ⟨plainId_quiet PySem.F.plain_extend_loop _,codeAny_mono (key _ _ _ st0 (λb o _ e=>e) gL1) λr s' q=>fin q⟩
end
def zRu (P:Program) (w:World) (a:Addr) (ws:List Str):HO:=.ext λh=>zHq P w h a ws
theorem b_set:bootBuiltins "set" = some (.type "set"):=by decide +kernel
section
variable {X:Cx}
theorem zLr (hcalm:X.calm=true):zAT X (.type "set") (λxs H Q=>∃ G ss x,xs = [x]/\zu G H/\zBu X.K G H (.lst (ss.map D.str)) x/\ss.length<64/\∀ c,H c=none->Q (.ref c) (upd H c (zRu X.prog X.w c (zGR ss)))):=by
 intro pins s σ H xs us Q I r h
 obtain ⟨G,ss,x,rfl,sm,r1,hl,k⟩:=h
 obtain ⟨u,rfl,ru⟩:=zCs r
 obtain ⟨a,vs,rfl,q,rr⟩:=r1.list sm
 cases zC2 rr
 cases ru
 obtain ⟨its,vv,p,hz⟩:=I.list q
 have l1:=vv.length
 rw [List.length_map] at l1
 refine zNt (I.ok.hd hcalm) p.isList (by simpa using vv) (by rw [List.size_toArray,<- l1];unfold scanBound;omega) λh' tk L keep=>?_
 exact ⟨.ref s.heap.objs.size,upd H s.heap.objs.size (zRu X.prog X.w s.heap.objs.size (zGR ss)),I.laid (t':=tk) keep (Nat.le_refl _) ⟨L,(by obtain ⟨o,_,_,_,_,ho,_⟩:=L;exact ⟨o,ho⟩),λh1 h2 q k=>q.at k⟩,rfl,k _ I.fresh⟩
theorem zQq {pins:PNt} {σ:L2.St} {H:Hp} {s:Shared} (I:Inv X pins σ H s) (d:Drawn):Inv X pins σ H { s with drawn:=d }:=
 ⟨I.ok,I.os,I.bare,I.base,I.loc,I.cell,I.free,I.freeC,I.pin,I.hok,I.len⟩
theorem zHQ (hcalm:X.calm=true):zAT X (.builtin "sorted") (λxs H Q=>∃ a ws,xs = [.ref a]/\H a=some (zRu X.prog X.w a ws)/\ws.length<64/\∀ l,H l=none->Q (.ref l) (upd H l (.lst ((zA8 ws).map V.str)))):=by
 intro pins s σ H xs us Q I r h
 obtain ⟨a,ws,rfl,hH,hl,k⟩:=h
 obtain ⟨u,rfl,ru⟩:=zCs r
 cases ru
 obtain ⟨L,_,_⟩:=(show zAI X.prog X.w H s.heap a (zRu X.prog X.w a ws) from I.hok a _ hH)
 refine Calls.call_function_entry kind_sorted plain_sorted entry_sorted (args_sorted1 _) ?_
 unfold Builtin.«sorted»
 refine wpAny_bind (m:=checkCount "sorted" 1 1 _) (wpAny_pure ?_)
 refine wpAny_bind (zIE (A:=X.A.in1) (I.ok.hd hcalm) L (by unfold scanBound;omega) λh' tk d vs us keep v p=>?_)
 have vl:=v.length
 rw [List.length_map] at vl
 have pl:=p.length_eq
 refine wpAny_bind (wpAny_newList ?_ (by rw [<- vl,sizeLine_eq];omega))
 have I1:Inv X pins σ H { s with heap:=h',toks:=tk,drawn:=d }:=zQq (I.kept (t':=tk) keep) d
 have hn:H h'.objs.size=none:=I1.hok.fresh (Nat.le_refl _)
 refine wpAny_bind (wpAny_holding (wpAny_call_entry slot_list_sort ⟨_,Heap.get?_push_size _ rfl,rfl⟩ entry_list_sort (zCO (n:=0) (Heap.get?_push_size _ rfl) (zBB (ss:=us) v) (by omega) λout ss' a1 a2 a3=>⟨_,rfl,wpAny_pure ⟨_,rfl,?_⟩⟩) (args_list_sort _)))
 have e5:=zBP _ _ ((a2.trans p).trans (qk ws).symm) (zDY a3) (zEH ws)
 subst e5
 obtain ⟨e',he⟩:=sortedHeap_at (h:=h'.push (seqObj "list" vs.toArray 0)) (a:=h'.objs.size) (vs:=vs) (n:=0) (out:=out) (Heap.get?_push_size _ rfl)
 refine ⟨.ref h'.objs.size,upd H h'.objs.size (.lst ((zA8 ws).map V.str)),I1.laid (t':=tk) (λb ob eb=>?_) (Nat.le_refl _) ⟨?_,out.toList,e',zCD a1,?_⟩,rfl,k _ hn⟩
 ·have blt:=Heap.lt_size eb
  rw [sortedHeap_old (Nat.ne_of_lt blt) (Nat.lt_of_lt_of_le blt (by rw [Heap.size_push];exact Nat.le_succ _))]
  exact Heap.get?_push_of_some _ eb
 ·rw [List.length_map,(qk ws).length_eq];exact zAp (by omega)
 ·rw [he]
def zPD:D->Option (List D)
 |.lst xs=>if xs.length<64 then (zD9 xs).map λss=>(zA8 (zGR ss)).map D.str else none
 |_=>none
theorem zJz {a:Expr} {f:ROd} {p1 p2 pos pos2:Pos} (hcalm:X.calm=true) (hg:Gl X "sorted") (hm:X.mg "sorted" = none) (hg2:Gl X "set") (hm2:X.mg "set" = none) (ha:SR X a f)
  (hs:stE X a []:=by rfl) (hpl:zDv X pos2 []:=by rfl) (hs1:stE X (.Call (.Name "set" p2) [a] [] pos2) []:=by rfl) (hpl1:zDv X pos []:=by rfl) :
  SF X (.Call (.Name "sorted" p1) [.Call (.Name "set" p2) [a] [] pos2] [] pos) (b1F f zPD):=
 zBo (zAJ (zHQ hcalm) hg hm zBQ (zt (zEa (zLr hcalm) hg2 hm2 b_set (zt ha yp hs) (by decide) (by decide) hs hpl) yp hs1) (by decide) (by decide) hs1 hpl1) λσ H Q=>by
  rintro ⟨G,ρ,ys,sm,er,ef,k⟩
  obtain ⟨d,e1,e2⟩:=Option.bind_eq_some_iff.mp ef
  unfold zPD at e2
  split at e2
  ·rename_i xs
   split at e2
   ·rename_i hl
    obtain ⟨ss,e5,rfl⟩:=Option.map_eq_some_iff.mp e2
    have ex:=zBw e5
    subst ex
    rw [List.length_map] at hl
    have ll:=zJB ss
    refine ⟨G,ρ,_,sm,er,e1,λv1 G1 H1 t1 r1=>⟨G1,ss,v1,rfl,t1.s,r1,hl,λc hc=>⟨c,zGR ss,rfl,zR,by omega,λl hn=>?_⟩⟩⟩
    have s1:zg G1 H1 G1 (upd H1 c (zRu X.prog X.w c (zGR ss))):=zg.newH t1.s hc
    have s2:zg G1 (upd H1 c (zRu X.prog X.w c (zGR ss))) G1 _:=zg.newH (o:=.lst ((zA8 (zGR ss)).map V.str)) s1.s hn
    exact k l _ G1 _ ((t1.trans s1).trans s2) ((t1.trans s1).h.free hn) (s1.s.free hn) zR (Reps.strs _)
   ·cases e2
  ·cases e2
end
section
variable {X:Cx} {o a e:Expr} {es:List Expr} {pos apos cpos:Pos} {i:Nat} {f g:ROd} {fl:ROl}
def oRd (i:Nat):ROd:=λρ=>match ρ[i]? with
 |some (.o _ (.p (.l xs)))=>some (.lst xs)
 |_=>none
theorem zSu {ρ:Rho} {d:D} (h:oRd i ρ=some d):∃ c xs,ρ[i]?=some (.o c (.p (.l xs)))/\d = .lst xs:=by
 unfold oRd at h
 split at h
 ·rename_i c xs q;cases h;exact ⟨c,xs,q,rfl⟩
 ·cases h
theorem zSv (i:Nat) (h:PE X e (zDq i)):SR X e (oRd i):=zBo h λσ H Q=>by
 rintro ⟨G,ρ,d,s,er,ef,k⟩
 obtain ⟨c,xs,q,rfl⟩:=zSu ef
 obtain ⟨a,e1,e2,e3⟩:=er.slot i _ q rfl
 obtain ⟨⟨⟨vs,e4,e5⟩,_⟩,_⟩:=e2
 exact ⟨_,e1,k _ G H (zg.refl s) (.ow (e3 a (by simp [fpS,fpO,fpF])) e4 e5)⟩
def zJ0 (i:Nat) (f:ROd):ROo:=λρ=>match ρ[i]? with
 |some (.o c (.p (.l xs)))=>if xs.length<16000000 then (f ρ).map λd=>.nx (ρ.set i (.o c (.p (.l (xs ++ [d]))))) else none
 |_=>none
theorem zQr (i:Nat) (ho:PE X o (zDq i)) (ha:SE X a f) (hbase:bsA X o "append":=by rfl) (hfew:zP0 X cpos [a]:=by rfl) (hline:smL apos cpos:=by rfl) (hs:stE X a []:=by rfl) (hplain:zDv X cpos []:=by rfl)
  (hsw:zGB X (.Call (.Attribute o "append" apos) [a] [] cpos) none pos:=by rfl):SS X (.Expr (.Call (.Attribute o "append" apos) [a] [] cpos) pos) (zJ0 i f):=
 qN (zEX (zH0 PySem.F.plainAttrs_list PySem.F.slot_list_append PySem.F.type_list_append zCu ho (zt ha yp hs) hbase hfew hline hs hplain) hsw) λE σ H=>by
  rintro ⟨G0,H0,G,ρ,o,st,ef,k⟩
  unfold zJ0 at ef
  split at ef
  ·rename_i c xs q
   split at ef
   ·rename_i hl
    obtain ⟨d,e2,rfl⟩:=Option.map_eq_some_iff.mp ef
    obtain ⟨a1,q1,q2,q3⟩:=st.er.slot i _ q rfl
    obtain ⟨⟨⟨vs,q4,q5⟩,_⟩,q6⟩:=q2
    refine ⟨_,q1,.inl ⟨rfl,vs,SqL.of q4⟩,G,ρ,d,st.bs.gh,st.er,e2,λv G' H' t r=>?_⟩
    have st':=st.step t
    have h4:=t.h _ _ q4
    have r5:=Reps.mono t.g _ _ q5
    obtain ⟨a2,w1,_,w3⟩:=st'.er.slot i _ q rfl
    rw [q1] at w1;cases w1
    have g0:=w3 a1 (by simp [fpS,fpO,fpF])
    refine ⟨a1,vs,v,rfl,rfl,h4,Nat.lt_of_lt_of_le (by rw [<- q5.length];exact hl) (by decide),k σ G' _ (st'.mutG (w:=.o c (.p (.l (xs ++ [d])))) q rfl rfl q1 (zu.refl _) (λb o e=>?_) (λb o e n=>by rw [e] at n;cases n) (λb o e n=>?_) ⟨⟨⟨_,zR,r5.append (Reps.cons r Reps.nil)⟩,by simp [fpO,fpF]⟩,q6⟩ λc m=>?_)⟩
    ·rw [zY λz=>by rw [z,g0] at e;cases e];exact st'.bs.gh _ _ e
    ·rw [zY λz=>n (by rw [z];simp [fpS,fpO,fpF])];exact e
    ·have:c=a1:=by simpa [fpS,fpO,fpF] using m
     subst this
     exact ⟨.inl (by simp [fpS,fpO,fpF]),g0⟩
   ·cases ef
  ·cases ef
def rIdx (K:Fg):V->List V->Hp->VK->Prop:=λx vs H Q=>∃ G ds dx y j,vs = [y]/\zu G H/\zBu K G H (.lst ds) x/\Rep K G dx y/\dep dx<=20/\ds.findIdx? (λd=>eqD d dx)=some j/\Q (.int j) H
theorem zNz (hu:X.A.units+30<cLine):MtR X "list.index" (rIdx X.K):=by
 intro pins s σ H x vs v us Q I rx rv h
 obtain ⟨G,ds,dx,y,j,rfl,sm,r1,r2,hd,ej,q⟩:=h
 obtain ⟨u,rfl,ru⟩:=rv.one
 obtain ⟨l,ws,rfl,ql,rr⟩:=r1.list sm
 cases rx
 obtain ⟨its,vv,p,hz⟩:=I.list ql
 obtain ⟨hj,tj,nj⟩:=List.findIdx?_eq_some_iff_getElem.mp ej
 have l1:=rr.length
 have l2:=vv.length
 have at_:∀ (i:Nat) (hi:i<ds.length) (hi':i<its.toArray.size),zRq ds its dx its.toArray[i]=eqD ds[i] dx:=λi hi hi'=>zGG I sm rr vv dx (by simp) (List.getElem?_eq_getElem hi)
 obtain ⟨ob,n,e,hc,hs,hdt⟩:=p
 obtain ⟨oc,od,odt,osl⟩:=ob
 simp only at hc hdt hs
 subst hc;subst hdt;subst hs
 have js:j<its.toArray.size:=by rw [List.size_toArray];omega
 have sl:j<sizeLine:=by omega
 rw [sizeLine_eq] at sl
 refine call_meets PySem.F.slot_list_index ⟨_,e,rfl⟩ PySem.F.entry_list_index (PySem.F.args_list_index_2 _ _) (SeqAt.list_indexAt l its.toArray n none osl u (zRq ds its dx) j js (by omega) (by rw [at_ j hj js];exact tj) (λm hm hmj=>by rw [at_ m (by omega) hm];simpa using nj m hmj)) ⟨e,zCx I sm hu rr vv r2 ru hd,?_⟩
 exact ⟨.int j,H,I.tok _,⟨_,rfl⟩,q⟩
def zQs (d x:D):Option D:=if dep x<=20 then match d with
  |.lst ds=>(ds.findIdx? λy=>eqD y x).map λ(j:Nat)=>D.int (j:Int)
  |_=>none
 else none
theorem zN0 (hu:X.A.units+30<cLine) (ho:SR X o f) (ha:SE X a g) (hbase:bsA X o "index":=by rfl) (hfew:zP0 X cpos [a]:=by rfl) (hline:smL apos cpos:=by rfl) (hs:stE X a []:=by rfl) (hplain:zDv X cpos []:=by rfl) :
  SE X (.Call (.Attribute o "index" apos) [a] [] cpos) (b2 f g zQs):=
 zBo (zH0 PySem.F.plainAttrs_list PySem.F.slot_list_index PySem.F.type_list_index (zNz hu) ho (zt ha yp hs) hbase hfew hline hs hplain) λσ H Q=>by
  rintro ⟨G,ρ,d,sm,er,ef,k⟩
  obtain ⟨x,e1,ef⟩:=Option.bind_eq_some_iff.mp ef
  obtain ⟨y,e2,ef⟩:=Option.bind_eq_some_iff.mp ef
  unfold zQs at ef
  split at ef
  ·rename_i hd
   cases x with
   |lst ds=>
    obtain ⟨j,e3,rfl⟩:=Option.map_eq_some_iff.mp ef
    refine ⟨G,ρ,_,sm,er,e1,λv1 G1 H1 t1 r1=>?_⟩
    obtain ⟨l,ws,rfl,ql,_⟩:=r1.list t1.s
    refine ⟨.inl ⟨rfl,ws,ql⟩,G1,ρ,y,t1.s,er.step t1,e2,λv2 G2 H2 t2 r2=>?_⟩
    exact ⟨G2,ds,y,v2,j,rfl,t2.s,r1.step t2,r2,hd,e3,k _ G2 H2 (t1.trans t2) (yB.mpr rfl)⟩
   |_=>cases ef
  ·cases ef
def tAm (K:Fg) (i:Nat) (f:ROl):TA:=λσ H Q=>∃ G ρ ds a,zu G H/\Er K G H ρ σ/\f ρ=some ds/\σ[i]?=some (some (.ref a))/\∀ vs G' H',zg G H G' H'->Reps K G' ds vs->Q (vs ++ [.ref a]) H'
structure SAm (X:Cx) (es:List Expr) (i:Nat) (f:ROl):Prop where
 pa:PA X es (tAm X.K i f)
 len:∀ ρ ds,f ρ=some ds->ds.length+1=es.length
theorem zQt (i:Nat) (ho:PE X o (zDq i)) (hs:stE X o []:=by rfl):SAm X [o] i zP where
 pa:=zJs (zt ho yp hs) λσ H Q=>by
  rintro ⟨G,ρ,ds,a,s,er,ef,ea,k⟩
  cases ef
  exact ⟨_,ea,k [] G H (zg.refl s) Reps.nil⟩
 len:=λρ ds h=>by cases h;rfl
theorem zGT (ha:SE X e f) (hr:SAm X es i fl) (hs:stE X e es:=by rfl):SAm X (e::es) i (aCo f fl) where
 pa:=zJs (zt ha hr.pa hs) λσ H Q=>by
  rintro ⟨G,ρ,ds,a,s,er,ef,ea,k⟩
  obtain ⟨d,e1,ef⟩:=Option.bind_eq_some_iff.mp ef
  obtain ⟨ds',e2,rfl⟩:=Option.map_eq_some_iff.mp ef
  refine ⟨G,ρ,d,s,er,e1,λv G1 H1 t1 r1=>⟨G1,ρ,ds',a,t1.s,er.step t1,e2,ea,λvs G' H' t r=>?_⟩⟩
  exact k (v::vs) G' H' (t1.trans t) (Reps.cons (Rep.mono t.g _ _ r1) r)
 len:=λρ ds h=>by
  obtain ⟨d,e1,h⟩:=Option.bind_eq_some_iff.mp h
  obtain ⟨ds',e2,rfl⟩:=Option.map_eq_some_iff.mp h
  have:=hr.len _ _ e2
  simp only [List.length_cons];omega
end
def spML (K:Fg) (f:List D->Ob->Option (D×Ob)) (n:Nat):Sp:=λvs H Q _=>∃ G x a ds ws r,vs=ws ++ [.ref a]/\zu G H/\At K G H x a/\Reps K G ds ws/\ds.length+1=n/\f ds x=some r/\∀ v G' H',Chg K G H G' H' x r.2 a->Rep K G' r.1 v->Q v H'
def zLs (n:Nat) (a:Addr) (ρ:Rho):Option Ob:=match ρ[n]? with
 |some (.o c y)=>if c=some a then some y else none
 |_=>none
def zLt (n:Nat) (a:Addr):Out->Option (D×Ob)
 |.rm d ρ=>(zLs n a ρ).map λy=>(d,y)
 |.nx ρ=>(zLs n a ρ).map λy=>(.non,y)
 |_=>none
def zSw (N:List Str) (F:ROo) (a:Addr) (ds:List D) (x:Ob):Option (D×Ob):=(F ((ds.map Sl.v ++ [.o (some a) x])++List.replicate (N.length-(ds.length+1)) .un)).bind (zLt ds.length a)
section
variable {K:Fg} {G H:Hp} {a:Addr} {x:Ob} {ds:List D} {vs:List V} {m:Nat}
theorem zJF {i:Nat} {s:Sl} (h:((ds.map Sl.v ++ [Sl.o (some a) x])++List.replicate m Sl.un)[i]?=some s) (o:s.isObj=true):i=ds.length/\s = .o (some a) x:=by
 by_cases hi:i<ds.length
 ·rw [List.append_assoc,List.getElem?_append_left (by simpa using hi),List.getElem?_map] at h
  cases q:ds[i]? with
  |none=>rw [q] at h;cases h
  |some d=>rw [q] at h;cases h;cases o
 ·rw [List.append_assoc,List.getElem?_append_right (by simpa using hi),List.length_map,List.singleton_append] at h
  cases e:i-ds.length with
  |zero=>rw [e] at h;simp at h;exact ⟨by omega,h.symm⟩
  |succ j=>
   rw [e,List.getElem?_cons_succ,List.getElem?_replicate] at h
   split at h<;>cases h
   cases o
theorem zN1 (A:At K G H x a) (r:Reps K G ds vs):Er K G H (ds.map Sl.v ++ [.o (some a) x]) ((vs ++ [V.ref a]).map some):=by
 have hl:=r.length
 have obj:∀ {i:Nat} {s:Sl},(ds.map Sl.v ++ [Sl.o (some a) x])[i]?=some s->s.isObj=true->i=ds.length/\s = .o (some a) x:=λ{i s} h o=>zJF (m:=0) (by simpa using h) o
 refine ⟨by simp [hl],λi d h=>?_,λi s h o=>?_,λi j s t b c ne h1 o1 h2 o2=>?_⟩
 ·by_cases hi:i<ds.length
  ·rw [List.getElem?_append_left (by simpa using hi),List.getElem?_map] at h
   obtain ⟨d',q,z⟩:=Option.map_eq_some_iff.mp h
   cases z
   obtain ⟨v,e1,e2⟩:=r.get q
   have hi:i<vs.length:=(List.getElem?_eq_some_iff.mp e1).1
   exact ⟨v,by rw [List.map_append,List.getElem?_append_left (by simpa using hi),List.getElem?_map,e1];rfl,e2⟩
  ·rw [List.getElem?_append_right (by simpa using hi)] at h
   have:=List.mem_singleton.mp (List.mem_of_getElem? h)
   cases this
 ·obtain ⟨hi,rfl⟩:=obj h o
  refine ⟨a,?_,⟨⟨A.rep,A.nd⟩,λc' e=>by cases e;rfl⟩,A.fr⟩
  rw [hi,hl,List.map_append,List.getElem?_append_right (by simp)]
  simp
 ·obtain ⟨z1,_⟩:=obj h1 (Sl.obj_of_own o1)
  obtain ⟨z2,_⟩:=obj h2 o2
  exact absurd (z1.trans z2.symm) ne
end
theorem zQu {P:Program} {w:World} {K:Fg} {mg:MGt} {base:Heap} {x qual:Str} {st:Stmt} {fa:Addr} {fd:FuncData} {N ps:List Str} {k:Nat} {F:ROo} {f:List D->Ob->Option (D×Ob)}
  (FF:Fun K x qual st fa fd) (S:zZ N ps (zI st))
  (hbody:∀ (cdv:Value) (A:Around) (outer:List Env) (s:Shared) (H:Hp),zBn k (A.deeper (envOfC qual (zI st) s.heap.objs.size fa cdv))->SSs (zHy CX0 P w K mg base N qual (zI st) fa cdv A outer s H E0).nox (ye st) F)
  (hf:∀ a ds y r,ds.length+1=ps.length->f ds y=some r->zSw N F a ds y=some r):zF8 P w K mg base CX0 (k+1) fa fd ps (spML K f ps.length):=by
 refine FF.ok S (λvs H Q E h=>?_) (λcdv A outer s H vs Q E hr h=>?_)
 ·obtain ⟨G,y,a,ds,ws,y',rfl,_,_,r,hn,_⟩:=h
  rw [List.length_append,List.length_singleton,<- r.length,hn]
 ·obtain ⟨G,y,a,ds,ws,⟨d0,y'⟩,rfl,sm,hA,r,hn,ef,kk⟩:=h
  have h1:SSs (zHy CX0 P w K mg base N qual (zI st) fa cdv A outer s H E).nox (ye st) F:=hbody cdv A outer s H hr
  refine ⟨_,h1,?_⟩
  obtain ⟨o,e1,e2⟩:=Option.bind_eq_some_iff.mp (hf a ds y _ hn ef)
  have hl:=r.length
  have er:=(zN1 hA r).app (N.length-(ds.length+1)) (List.replicate (N.length-(ds.length+1)) none) (by simp)
  have es:L2.zCf N (ws ++ [.ref a])=(ws ++ [V.ref a]).map some++List.replicate (N.length-(ds.length+1)) none:=by rw [zI2,List.length_append,List.length_singleton,<- hl]
  have hσ:((ws ++ [V.ref a]).map some++List.replicate (N.length-(ds.length+1)) none)[ds.length]?=some (some (.ref a)):=by
   rw [hl,List.map_append,List.append_assoc,List.getElem?_append_right (by simp)]
   simp
  have no:∀ b,(b∈fpO H y a->q8 H ((ds.map Sl.v ++ [Sl.o (some a) y])++List.replicate (N.length-(ds.length+1)) Sl.un) ((ws ++ [V.ref a]).map some++List.replicate (N.length-(ds.length+1)) none) b=none) /\
    (b∉fpO H y a->q8 H ((ds.map Sl.v ++ [Sl.o (some a) y])++List.replicate (N.length-(ds.length+1)) Sl.un) ((ws ++ [V.ref a]).map some++List.replicate (N.length-(ds.length+1)) none) b=H b):=λb=>by
   refine ⟨λh=>zDW (i:=ds.length) (s:=.o (some a) y) (a:=a) (by rw [List.append_assoc,List.getElem?_append_right (by simp)];simp) rfl hσ h,λh=>?_⟩
   unfold q8
   rw [if_neg]
   rintro ⟨i,s,c,h1,h2,h3,h4⟩
   obtain ⟨rfl,rfl⟩:=zJF h1 (Sl.obj_of_own h2)
   rw [hσ] at h3
   cases h3
   exact h h4
  rw [es]
  refine ⟨G,q8 H _ _,G,_,o,er.toSt sm,e1,?_⟩
  have fin:∀ {ρ:Rho} {σ':L2.St} {G' H':Hp},zLs ds.length a ρ=some y'->StR K G (q8 H ((ds.map Sl.v ++ [Sl.o (some a) y])++List.replicate (N.length-(ds.length+1)) Sl.un) ((ws ++ [V.ref a]).map some++List.replicate (N.length-(ds.length+1)) none)) G' H' ρ σ'->Chg K G H G' H' y y' a:=λ{ρ σ' G' H'} e2 st'=>by
   unfold zLs at e2
   split at e2
   ·rename_i c y1 q0
    split at e2
    ·rename_i hc
     cases e2
     subst hc
     obtain ⟨a',g1,g2,g3⟩:=st'.er.slot ds.length _ q0 rfl
     have:a'=a:=g2.2 a rfl
     subst this
     refine ⟨st'.bs.gg,st'.bs.gh,λb o e n=>?_,λb o e n=>st'.bs.hh b o (by rw [(no b).2 n];exact e),⟨g2.1.1,g2.1.2,g3⟩,λc m=>?_⟩
     ·have z:=st'.bs.fr b o e n
      by_cases hb:b∈fpO H y a'
      ·exact .inr hb
      ·rw [(no b).2 hb] at z;exact .inl z
     ·have z:=st'.ows ds.length _ a' q0 rfl g1 c m
      by_cases hb:c∈fpO H y a'
      ·exact .inl hb
      ·rw [(no c).2 hb] at z;exact .inr z
    ·cases e2
   ·cases e2
  cases o with
  |nx ρ=>
   obtain ⟨y2,e3,e4⟩:=Option.map_eq_some_iff.mp e2
   cases e4
   exact λσ' G' H' st'=>kk .non G' H' (fin e3 st') (zBM.mpr rfl)
  |rm d ρ=>
   obtain ⟨y2,e3,e4⟩:=Option.map_eq_some_iff.mp e2
   cases e4
   exact λv σ' G' H' st' r'=>kk v G' H' (fin e3 st') r'
  |rt d=>cases e2
  |bk ρ=>cases e2
  |ct ρ=>cases e2
  |ro ρ=>cases e2
structure zQv (P:Program) (w:World) (K:Fg) (mg:MGt) (base:Heap) (k:Nat) (x:Str) (n:Nat) (F:List D->Ob->Option (D×Ob)):Prop where
 ex:∃ f fd ps,zF8 P w K mg base CX0 k f fd ps (spML K F n)/\mg x=some (.ref f)/\PySem.W.keepIn K (.ref f)=true/\L2.zD8 K fd ps []
section
variable {X:Cx} {e:Expr} {es:List Expr} {pos p pos' cpos:Pos} {fl:ROl} {k n i:Nat} {F:List D->Ob->Option (D×Ob)} {x y:Str}
def zFu (i j:Nat) (fl:ROl) (F:List D->Ob->Option (D×Ob)):ROo:=λρ=>match ρ[i]? with
 |some (.l xs)=>(fl ρ).bind λds=>(F ds (.p (.l xs))).bind λr=>match r.2 with
  |.p (.l ys)=>some (.nx ((ρ.set i (.l ys)).set j (.v r.1)))
  |_=>none
 |_=>none
theorem zN2 (i j:Nat) (h:zQv X.prog X.w X.K X.mg X.base k x n F) (hr:zBn k X.A) (hg:X.env.kindOf x=some .globalImplicit) (hn:(e::es).length=n) (ha:SAm X (e::es) i fl) (hN:X.N.Nodup) (hj:X.N[j]?=some y) (hy:Loc X.env.scope y)
  (hs:zGB X (.Call (.Name x p) (e::es) [] cpos) (some (.Name y pos')) pos:=by rfl)
  (hf:fnL X y:=by first|exact .inl rfl|exact .inr rfl|assumption) (hdb:nDb x:=by decide)
  (he:stE X e es:=by rfl) (hpl:zDv X cpos es:=by rfl) :
  SS X (.Assign [.Name y pos'] (.Call (.Name x p) (e::es) [] cpos) pos) (zFu i j fl F):=by
 obtain ⟨f,fd,ps,FO,hm,hk,hb⟩:=h.ex
 refine qN (zCM hN hj hy (zEZ (E:=E0) FO hr hg hm hk hb .nil zPz ha.pa hdb he hpl) hs hf) λE σ H zz=>?_
 obtain ⟨G0,H0,G,ρ,out,st,ef,kk⟩:=zz
 unfold zFu at ef
 split at ef
 ·rename_i xs q0
  obtain ⟨ds,e2,ef⟩:=Option.bind_eq_some_iff.mp ef
  obtain ⟨r0,e3,ef⟩:=Option.bind_eq_some_iff.mp ef
  split at ef
  ·rename_i ys e4
   cases ef
   obtain ⟨a,q1,r1,r2⟩:=st.er.slot i _ q0 rfl
   have A:At X.K G H (.p (.l xs)) a:=⟨r1,by simp [fpO,fpF],r2⟩
   refine ⟨G,ρ,ds,a,st.bs.gh,st.er,e2,q1,λvs G1 H1 t r=>?_⟩
   show spML X.K F n ((vs ++ [V.ref a]) ++ []) H1 _ E0
   rw [List.append_nil]
   refine ⟨G1,.p (.l xs),a,ds,vs,r0,rfl,t.s,A.step t,r,by rw [ha.len _ _ e2];exact hn,e3,λv G2 H2 ch rv=>?_⟩
   rw [e4] at ch
   have st':=st.step t
   exact kk _ G2 H2 ((st'.mutG q0 rfl (w:=.l ys) rfl q1 ch.g ch.gh ch.fr ch.h ch.at_.rep λp mm=>⟨ch.new p mm,ch.at_.fr p mm⟩).setV rv)
  ·cases ef
 ·cases ef
end
theorem be_ga:typeLookup (.type "ValueError") "__getattribute__" = pure (some (.builtin "BaseException.__getattribute__")):=by rw [typeLookup_type,builtinLookup_eq_fast];kernel_rfl
theorem zLu:Slot "ValueError" "__getattribute__" "BaseException.__getattribute__":=.of (owner:="BaseException") (n:="__getattribute__") be_ga (by decide +kernel) (by decide +kernel) (by decide +kernel) (by first|exact .inl (by decide +kernel)|exact .inr (by decide +kernel)) (by rw [isSubtype_type];kernel_rfl)
theorem zSx:entryFor table "BaseException.__getattribute__" = some Builtin.«object.__getattribute__»:=entryFor_alias (id':="object.__getattribute__") (by kernel_rfl) (by first|rfl|decide +kernel) (by decide +kernel) (by kernel_rfl)
theorem zSy (a b:Value):argsOk "BaseException.__getattribute__" ⟨[a,b],[]⟩:=by
 unfold argsOk
 first|kernel_rfl|(rw [signature?_eq_fast];kernel_rfl)
structure XC (K:Fg) (C:Addr):Prop where
 ga:PySem.W.findIn K (.ref C) "__getattribute__" = some (some (.builtin "BaseException.__getattribute__"))
 hk:PySem.W.findIn K (.ref C) "__getattr__" = some none
 cl:PySem.W.findIn K (.ref C) "__class__" = some (some (.builtin "object.__class__"))
 be:PySem.W.subIn K (.ref C) (.type "BaseException")=some true
 ob:PySem.W.subIn K (.ref C) (.type "object")=some true
section
variable {prog:Program} {w:World} {A:Around} {E:VSt} {s:Shared} {K:Fg} {C e:Addr} {oe:Obj}
theorem zD1 {h:Heap} {M:Model} (he:h.get? e=some oe) (hc:oe.cls = .ref C):PySem.W.Looks M h (typeOf (.ref e)) (.ref C):=λA Q E s k q=>by
 simp only [typeOf]
 exact wpAny_bind (wpAny_load (k _ _ he) (wpAny_pure (hc ▸ q)))
theorem zN3 {nm:Value} {Q:Unit->Shared->Prop} (X:K.In s.heap) (x:XC K C) (he:s.heap.get? e=some oe) (hc:oe.cls = .ref C) (h:Q () s):wpAny (model prog w) A (checkBuiltinCall "BaseException.__getattribute__" ⟨[.ref e,nm],[]⟩) Q E s:=by
 have L:PySem.W.Looks (model prog w) s.heap (isInstance (.ref e) (.type "BaseException")) true:=(zD1 he hc).andThen (PySem.W.looks_subIn X x.be)
 have hk:builtinKind "BaseException.__getattribute__" = some .slot:=by decide +kernel
 have hs:splitId "BaseException.__getattribute__" = some ("BaseException","__getattribute__"):=by decide +kernel
 simp only [checkBuiltinCall,hk,hs]
 refine wpAny_bind (L.at ?_)
 simp only [Bool.not_true,Bool.false_eq_true,if_false]
 have ha:=zSy (.ref e) nm
 cases hsig:Manifest.signature? "BaseException.__getattribute__" with
 |none=>exact wpAny_pure h
 |some sig=>
  simp only [argsOk,hsig] at ha
  show wpAny _ A (Bind.checkArgs _ sig _) Q E s
  rw [ha];exact wpAny_pure h
theorem zSz {R:Result->Shared->Prop} (X:K.In s.heap) (x:XC K C) (he:s.heap.get? e=some oe) (hc:oe.cls = .ref C) (h:R (.ok (.ret (.ref C))) s) :
  codeAny (model prog w) A (.call (.builtin "getset_descriptor.__get__") ⟨[.builtin "object.__class__",.ref e,.ref C],[]⟩) R s:=by
 obtain ⟨hp,g,d,t,os⟩:=s
 have hT5:(⟨hp,g,d,t,os⟩:Shared).TypeIs (.builtin "object.__class__") "getset_descriptor":=PySem.F.typeOf_object_class
 have L:PySem.W.Looks (model prog w) hp (isInstance (.ref e) (.type (".".intercalate ("object.__class__".cutAt '.').dropLast))) true:=by
  rw [PySem.F.owner_object_class]
  exact (zD1 he hc).andThen (PySem.W.looks_subIn X x.ob)
 refine codeAny_call_builtin PySem.F.slot_gs_get.plain PySem.F.entry_gs_get (PySem.F.slot_gs_get.check _ _ _ _ _ _ _ _ hT5 (PySem.F.args_gs_get _ _ _) ?_)
 repeat (any_goals (first|assumption|(with_reducible refine PySem.W.Looks.at L ?_)|wp_step))
 refine ⟨Code.quiet_builtin _ (by decide +kernel),codeAny_builtin PySem.F.entry_object_class ?_⟩
 have L2:PySem.W.Looks (model prog w) hp (typeOf (.ref e)) (.ref C):=zD1 he hc
 repeat (any_goals (first|assumption|(with_reducible refine PySem.W.Looks.at L2 ?_)|wp_step))
theorem zQw {Q:Option Value->Shared->Prop} (X:K.In s.heap) (x:XC K C) (he:s.heap.get? e=some oe) (hc:oe.cls = .ref C) (h:Q (some (.ref C)) { s with toks:=s.toks+1 }):wpAny (model prog w) A (getAttr? (.ref e) "__class__") Q E s:=by
 obtain ⟨hp,g,d,t,os⟩:=s
 have L1:PySem.W.Looks (model prog w) hp (typeOf (.ref e)) (.ref C):=zD1 he hc
 have L2:=PySem.W.looks_findIn (M:=model prog w) X x.ga
 have L3:=PySem.W.looks_findIn (M:=model prog w) X x.hk
 have L4:=PySem.W.looks_findIn (M:=model prog w) X x.cl
 have hT5:∀ t,(⟨hp,g,d,t,os⟩:Shared).TypeIs (.builtin "object.__class__") "getset_descriptor":=λ_=>PySem.F.typeOf_object_class
 have bd:=zLu.bind (.ref e)
 unfold getAttr? getAttrBy?
 repeat (any_goals (first|assumption|(with_reducible refine PySem.W.Looks.at L1 ?_)|(with_reducible refine PySem.W.Looks.at L2 ?_)|(with_reducible refine PySem.W.Looks.at L3 ?_)|wp_step))
 refine codeAny_call_builtin zLu.plain zSx (zN3 (s:=⟨hp,g,d,t+1,os⟩) X x he hc ?_)
 have f5:=PySem.F.typeOf_object_class
 have f6:=PySem.F.slot_gs_get.lookup
 have f7:=PySem.F.slot_gs_set.lookup
 have h5:=hT5 (t+1)
 repeat (any_goals (first|assumption|(with_reducible refine PySem.W.Looks.at L1 ?_)|(with_reducible refine PySem.W.Looks.at L4 ?_)|wp_step))
 refine zSz (s:=⟨hp,g,d,t+1,os⟩) X x he hc ?_
 repeat (any_goals (first|assumption|wp_step))
theorem zQx {Q:VSt} (he:s.heap.get? e=some oe) (hc:oe.cls = .ref C) (h:Q (.bool true) s):wpAny (model prog w) A (call (.builtin "isinstance") [.ref e,.ref C]) Q E s:=by
 refine call_isinstance (S:=λ_ R s=>s.heap.get? e=some oe/\R (.ok (.ret (.bool true))) s) (λprog w _ _ s hs=>isinstance_outer ?_ (by intro z;cases z)) ⟨he,h⟩
 obtain ⟨hp,g,d,t,os⟩:=s
 have L1:PySem.W.Looks (model prog w) hp (typeOf (.ref e)) (.ref C):=zD1 hs.1 hc
 unfold Builtin.«isinstance.nested»
 refine wpAny_bind (L1.at ?_)
 rw [if_pos (by simp)]
 exact wpAny_bind (wpAny_rule (wpAny_pure hs.2))
theorem zQy {Q:VSt} (X:K.In s.heap) (hv:PySem.W.subIn K (.ref C) (.type "ValueError")=some true) (he:s.heap.get? e=some oe) (hc:oe.cls = .ref C) (h:Q (.bool true) s):wpAny (model prog w) A (call (.builtin "isinstance") [.ref e,.type "ValueError"]) Q E s:=by
 refine call_isinstance (S:=λ_ R s=>(K.In s.heap/\s.heap.get? e=some oe)/\R (.ok (.ret (.bool true))) s) (λprog w _ _ s hs=>isinstance_outer ?_ (by intro z;cases z)) ⟨⟨X,he⟩,h⟩
 obtain ⟨hp,g,d,t,os⟩:=s
 obtain ⟨⟨X,he⟩,h⟩:=hs
 have L1:PySem.W.Looks (model prog w) hp (typeOf (.ref e)) (.ref C):=zD1 he hc
 have L2:PySem.W.Looks (model prog w) hp (isInstance (.ref e) (.type "ValueError")) true:=L1.andThen (PySem.W.looks_subIn X hv)
 have f1:typeOf (.type "ValueError")=pure (.type "type"):=by kernel_rfl
 unfold Builtin.«isinstance.nested»
 refine wpAny_bind (L1.at ?_)
 rw [if_neg (λq=>by cases beq_iff_eq.mp q)]
 refine wpAny_bind (wpAny_of_eq f1 ?_)
 rw [if_pos (by decide)]
 k_delta "plainIsInstance"
 repeat (any_goals (first|assumption|(with_reducible refine PySem.W.Looks.at L2 ?_)|wp_step))
theorem zQz {D:Addr} {Q:VSt} (X:K.In s.heap) (x:XC K C) (hn:PySem.W.subIn K (.ref C) (.ref D)=some false) (hd:C≠D) (d0:(PySem.W.clsIn K D).isSome=true) (d1:PySem.W.typeIn K (.ref D)=some (.type "type")) (d2:PySem.W.instIn K (.ref D) (.type "type")=some true) (c0:(PySem.W.clsIn K C).isSome=true) (c2:PySem.W.instIn K (.ref C) (.type "type")=some true)
  (he:s.heap.get? e=some oe) (hc:oe.cls = .ref C) (h:Q (.bool false) { s with toks:=s.toks+1 }):wpAny (model prog w) A (call (.builtin "isinstance") [.ref e,.ref D]) Q E s:=by
 refine call_isinstance (S:=λ_ R s=>(K.In s.heap/\s.heap.get? e=some oe)/\R (.ok (.ret (.bool false))) { s with toks:=s.toks+1 }) (λprog w _ _ s hs=>isinstance_outer ?_ (by intro z;cases z)) ⟨⟨X,he⟩,h⟩
 obtain ⟨hp,g,d,t,os⟩:=s
 obtain ⟨⟨X,he⟩,h⟩:=hs
 have L1:PySem.W.Looks (model prog w) hp (typeOf (.ref e)) (.ref C):=zD1 he hc
 have L4:PySem.W.Looks (model prog w) hp (isSubtype (.ref C) (.ref D)) false:=PySem.W.looks_subIn X hn
 have L3:PySem.W.Looks (model prog w) hp (isInstance (.ref e) (.ref D)) false:=L1.andThen L4
 have L5:=PySem.W.looks_typeIn (M:=model prog w) X d1
 have L6:=PySem.W.looks_instIn (M:=model prog w) X d2
 have L7:=PySem.W.looks_instIn (M:=model prog w) X c2
 unfold Builtin.«isinstance.nested»
 refine wpAny_bind (L1.at ?_)
 rw [if_neg (λq=>hd (by injection beq_iff_eq.mp q))]
 refine wpAny_bind (L5.at ?_)
 rw [if_pos (by decide)]
 k_delta "plainIsInstance"
 unfold isType
 repeat lk
 unfold PySem.W.clsIn at d0 c0
 split at d0
 ·rename_i ho
  split at c0
  ·rename_i hoC
   refine PySem.W.nd_load (X _ _ ho) (PySem.W.nd_pure (wpAny_pure ?_))
   simp only [Bool.not_true,Bool.false_eq_true,if_false]
   refine wpAny_bind (L3.at ?_)
   simp only [Bool.false_eq_true,if_false]
   refine wpAny_bind (zQw (s:=⟨hp,g,d,t,os⟩) X x he hc ?_)
   refine wpAny_bind ?_
   repeat lk
   refine PySem.W.nd_load (X _ _ hoC) (PySem.W.nd_pure (wpAny_pure ?_))
   simp only [Bool.not_true,Bool.false_eq_true,if_false]
   refine wpAny_bind (wpAny_rule ?_)
   refine L4.at ?_
   exact wpAny_pure h
  ·cases c0
 ·cases d0
end
abbrev hdP (X:Cx) (y:Addr) (oe:Obj):Cx:={ hdX X y with pn:=(y,oe)::X.pn }
section
variable {X:Cx} {pins:PNt} {σ:L2.St} {H:Hp} {s:Shared} {y:Addr} {oe:Obj}
theorem zQ0 (I:Inv X pins σ H s) (ny:zFU X pins H y) (he:s.heap.get? y=some oe) (nf:y∉X.fs) (nc:∀ v,oe.data≠.cell v):Inv (hdP X y oe) pins σ H s:=by
 refine ⟨⟨I.ok.mod,I.ok.kind,I.ok.glob,I.ok.blt,I.ok.above,I.ok.inj,I.ok.has,I.ok.cab,λz=>(by cases z),I.ok.frames,I.ok.stk,I.ok.exf,I.ok.bs,I.ok.bsz,I.ok.noex,I.ok.exfs,I.ok.funs,I.ok.frf⟩,I.os,I.bare,I.base,I.loc,I.cell,I.free,I.freeC,λp hp=>?_,I.hok,I.len⟩
 rcases List.mem_cons.mp hp with rfl|hp
 ·exact ⟨he,ny.hH,ny.hL,nf,nc⟩
 ·exact I.pin p hp
theorem zQ1 (ok:X.Ok) (I:Inv (hdP X y oe) pins σ H s):Inv X pins σ H s:=
 ⟨ok,I.os,I.bare,I.base,I.loc,I.cell,I.free,I.freeC,λp hp=>I.pin p (List.mem_cons_of_mem _ hp),I.hok,I.len⟩
end
structure X3 (K:Fg) (C R D:Addr):Prop where
 xc:XC K C
 up:PySem.W.subIn K (.ref C) (.ref R)=some true
 be:PySem.W.subIn K (.ref R) (.type "BaseException")=some true
 nt:PySem.W.instIn K (.ref R) (.type "tuple")=some false
 va:PySem.W.subIn K (.ref C) (.type "ValueError")=some true
 no:PySem.W.subIn K (.ref C) (.ref D)=some false
 ne:C≠D
 d0:(PySem.W.clsIn K D).isSome=true
 d1:PySem.W.typeIn K (.ref D)=some (.type "type")
 d2:PySem.W.instIn K (.ref D) (.type "type")=some true
 r0:(PySem.W.clsIn K R).isSome=true
 c0:(PySem.W.clsIn K C).isSome=true
 c2:PySem.W.instIn K (.ref C) (.type "type")=some true
section
variable {X:Cx} {y C R D:Addr} {oe:Obj}
theorem zN4 (x:X3 X.K C R D) (hc:oe.cls = .ref C):zAT (hdP X y oe) (.builtin "isinstance") (λxs H Q=>(xs = [.ref y,.ref C]/\Q (.bl true) H)\/(xs = [.ref y,.ref D]/\Q (.bl false) H)\/(xs = [.ref y,.ty "ValueError"]/\Q (.bl true) H)):=by
 intro pins s σ H xs us Q I r h
 have he:s.heap.get? y=some oe:=(I.pin (y,oe) (by simp)).1
 rcases h with ⟨rfl,q⟩|⟨rfl,q⟩|⟨rfl,q⟩<;>obtain ⟨u,u2,rfl,r1,r2⟩:=zSI r<;>cases r1<;>cases r2
 ·exact zQx he hc ⟨.bl true,H,I,rfl,q⟩
 ·exact zQz (K:=X.K) I.kIn x.xc x.no x.ne x.d0 x.d1 x.d2 x.c0 x.c2 he hc ⟨.bl false,H,I.tok _,rfl,q⟩
 ·exact zQy (K:=X.K) I.kIn x.va he hc ⟨.bl true,H,I,rfl,q⟩
end
theorem zLv {M:Model} {A:Around} {E:VSt} {h:Heap} {g:Array GenState} {d:Drawn} {t:Nat} {os:OsState} {K:Fg} {e C R D:Addr} {oe:Obj} {Q:Bool->Shared->Prop} (X:K.In h) (x:X3 K C R D) (he:h.get? e=some oe) (hc:oe.cls = .ref C) (hq:Q true ⟨h,g,d,t,os⟩) :
  wpAny M A (excMatches (.ref e) (.ref R)) Q E ⟨h,g,d,t,os⟩:=by
 have L1:PySem.W.Looks M h (typeOf (.ref e)) (.ref C):=zD1 he hc
 have L2:PySem.W.Looks M h (isSubtype (.ref C) (.ref R)) true:=PySem.W.looks_subIn X x.up
 have L3:PySem.W.Looks M h (isInstance (.ref e) (.ref R)) true:=L1.andThen L2
 have L4:PySem.W.Looks M h (isInstance (.ref R) (.type "tuple")) false:=PySem.W.looks_instIn X x.nt
 have L5:PySem.W.Looks M h (isSubtype (.ref R) (.type "BaseException")) true:=PySem.W.looks_subIn X x.be
 have r0:=x.r0
 unfold PySem.W.clsIn at r0
 split at r0
 ·rename_i ho
  have hR:=X _ _ ho
  unfold excMatches
  repeat (first|(with_reducible refine PySem.W.Looks.at L1 ?_)|(with_reducible refine PySem.W.Looks.at L2 ?_)|(with_reducible refine PySem.W.Looks.at L3 ?_)|(with_reducible refine PySem.W.Looks.at L4 ?_)|(with_reducible refine PySem.W.Looks.at L5 ?_)|(with_reducible refine wpAny_loadPart_at hR ?_)|wp_step)
  exact hq
 ·cases r0
section
variable {X:Cx} {C R D:Addr} {xc:Str} {np hpos:Pos} {en yn:Str} {ie iy:Nat} {b₀:Stmt} {rest:List ExceptHandler}
theorem zQ2 {pins:PNt} {σ:L2.St} {H:Hp} {s:Shared} {h':Heap} {m:MGt} {v:Option Value} {tk:Nat} (I:Inv X pins σ H s) (hN:X.N.Nodup) (hie:X.N[ie]?=some en) (hl:∀ (i:Nat) (x:Str) (v:V),X.N[i]?=some x->σ[i]?=some (some v)->Vis X.env.scope x->∃ u,y8 v u/\Look X.env s.heap m x u)
  (hs:Heap.SameBut X.env.locals s.heap h') (hn:h'.Ns X.env.locals (λx=>if x=en then v else m x)):Inv X pins (σ.set ie none) H { s with heap:=h',toks:=tk }:=by
 have same:∀ b,b≠X.env.locals->h'.get? b=s.heap.get? b:=λb nb=>hs.2 b nb
 have neL:∀ b o,X.s₀.heap.get? b=some o->b≠X.env.locals:=λb o e=>Nat.ne_of_lt (Nat.lt_of_lt_of_le (Heap.lt_size e) I.ok.above)
 refine ⟨I.ok,I.os,I.bare,⟨λb o e n hb hx=>?_,λb o e n hb hx=>?_,I.base.free,λb o e hx=>?_,I.base.tups,I.base.frzs,I.base.tbls⟩,⟨_,hn,λi x v' e1 e2 e3=>?_⟩,λx c e=>?_,I.free,I.freeC,λp hp=>?_,λb ob e=>?_,by rw [List.length_set];exact I.len⟩
 ·rw [same b (neL b o e)];exact I.base.keep b o e n hb hx
 ·rw [same b (neL b o e)];exact I.base.slot b o e n hb hx
 ·rw [same b (neL b o e)];exact I.base.there b o e hx
 ·by_cases hi:i=ie
  ·subst hi
   rw [List.getElem?_set] at e2
   simp at e2
  ·rw [List.getElem?_set_ne (λz=>hi z.symm)] at e2
   obtain ⟨u,r,l⟩:=hl i x v' e1 e2 e3
   have nx:x≠en:=λz=>by
    subst z
    have h1:=(List.getElem?_eq_some_iff.mp e1)
    have h2:=(List.getElem?_eq_some_iff.mp hie)
    exact hi ((List.getElem_inj hN).mp (h1.2.trans h2.2.symm))
   refine ⟨u,r,l.imp (λq=>⟨q.1,by simp only [if_neg nx];exact q.2⟩) λq=>⟨q.1,?_⟩⟩
   obtain ⟨c,hc,o,ho,hd⟩:=q.2
   exact ⟨c,hc,o,by rw [same c (I.cne x c hc)];exact ho,hd⟩
 ·obtain ⟨v,o,ho,hd⟩:=I.cell x c e
  exact ⟨v,o,by rw [same c (I.cne x c e)];exact ho,hd⟩
 ·obtain ⟨q1,q2⟩:=I.pin p hp
  exact ⟨by rw [same p.1 q2.2.1];exact q1,q2⟩
 ·refine (I.hok b ob e).stay (λc w' hc q=>?_) (λ_ q=>q) λ_ _ q=>q
  rw [same c ?_]
  ·exact q
  ·rintro rfl
   rcases hc with rfl|hc
   ·rw [I.free] at e;cases e
   ·rw [I.free] at hc;cases hc
theorem zN5 (x:X3 X.K C R D) (hg:Gl X xc) (hm:X.mg xc=some (.ref R)) (hst:X.stack=X.env::X.outer) (hfr:X.env.frame=some X.env.locals) {pins:PNt} {σ:L2.St} {H:Hp} {s:Shared} {y T:Addr} (I:Inv X pins σ H s) (fl:Fly X.stack y T (.ref C) s.heap) (ny:zFU X pins H y) (nT:zFU X pins H T)
  (hN:X.N.Nodup) (hie:X.N[ie]?=some en) (hle:X.env.scope.names.lookup en=some .local) {D':zKS} {th:TS}
  (hb:∀ oe,oe.cls = .ref C->PSs (hdP X y oe).nox [b₀] th) (ht:th ⟨λσ' H'=>D'.nx (σ'.set ie none) H',λ_ _=>False,λ_ _=>False,λ_ _=>False⟩ (σ.set ie (some (.ref y))) H) {E:VSt} (hd:nDb xc:=by decide) :
  wpAny (model X.prog X.w) X.A (noteFrame (.ref y) X.env) (λ_ s₂=>wpAny (model X.prog X.w) X.A (setFlight (.ref y) none) (λ_ s₃=>
   wpAny (model X.prog X.w) X.A (handleBy (.ref y) X.env (.ExceptHandler (some (.Name xc np)) (some en) [b₀] hpos::rest)) (SP X pins D') E s₃) E s₂) E s:=by
 obtain ⟨a0,fl⟩:=fl
 rw [hst] at fl
 have frm:=I.ok.frames
 rw [hst] at frm
 have stB:∀ h',Heap.StaysIn (PySem.W.hideAll s.heap (y::T::frs (X.env::X.outer))) h'->Heap.StaysIn (PySem.W.hideAll s.heap (y::T::frs X.stack)) h':=λh' z=>by rw [hst];exact z
 refine wpAny_looks_onW frm hfr fl λh4 held4 up4=>?_
 refine wpAny_landsW (s:={ s with heap:=h4 }) held4 λh5 fl5 up5=>?_
 have I5:Inv X pins σ H { s with heap:=h5 }:=zGK I ny nT (stB _ fl5.1) (up4.trans up5)
 obtain ⟨ob,hob,hobc⟩:=fl5.there
 refine wpAny_handleBy_cons (codeAny_handlers_test ?_) (by intro q;cases q)
 refine zDS (zLV I5 y) hg hm ?_ hd
 refine zLv (K:=X.K) I5.kIn x hob hobc (codeAny_handlers_suite_as ?_)
 refine lands_againW (s:={ s with heap:=h5 }) fl5 λh6 fl6 up6=>?_
 have I6:Inv X pins σ H { s with heap:=h6 }:=zGK I ny nT (stB _ fl6.1) ((up4.trans up5).trans up6)
 obtain ⟨k1,k2,k3,oe,vs,T',oT,ts,hoe,hoec,hodt,_⟩:=fl6
 have nf:y∉X.fs:=λz=>by
  obtain ⟨_,o,ho,hnf⟩:=k3.mem (show y∈frs (X.env::X.outer) from by unfold frs;rw [List.filterMap_cons,hfr];exact List.mem_cons_of_mem _ z)
  rw [hoe] at ho;cases ho
  exact hnf _ hodt
 have nc:∀ v,oe.data≠.cell v:=λv z=>by rw [hodt] at z;cases z
 have J:=zQ0 I6 ny hoe nf nc
 refine zEA (X:=hdP X y oe) (v:=.ref y) J hN hie (.inl hle) rfl (λs7 I7=>?_) (.inr hle)
 refine wpAny_mono (hb oe hoec.1 pins s7 _ H _ (I7.wish _) ht) (λfw s2 q=>?_) λ_ _ z=>False.elim z
 have q:=SP.unwish q
 cases fw with
 |next=>
  obtain ⟨σ',H',I',q⟩:=q
  have I8:=zQ1 I.ok I'
  obtain ⟨m,hn,hl⟩:=I8.loc
  exact wpAny_nameGoes_keeps hle hn (by rw [I.ok.kind];rfl) λh' v hn' hs=>⟨σ'.set ie none,H',zQ2 I8 hN hie hl hs hn',q⟩
 |brk=>obtain ⟨_,_,_,q⟩:=q;exact q.elim
 |cont=>obtain ⟨_,_,_,q⟩:=q;exact q.elim
 |ret u=>obtain ⟨_,_,_,_,_,q⟩:=q;exact q.elim
end
section
variable {X:Cx} {κ:Nat->Addr} {C R D:Addr} {e:Expr} {es:List Expr} {fl:Rho->Option (List RD.D)} {x xC xD xR yn en:Str} {i ie k n:Nat}
 {pos p cpos epos pos' np hpos q1 q2 q3 q4 q5 q6 p1 p2 p3 r1 r2 r3 u1 bp a1 a2 a3 ip:Pos} {j:Nat}
abbrev zS0 (en xC xD yn:Str) (q1 q2 q3 q4 q5 q6 p1 p2 p3 r1 r2 r3 u1 bp a1 a2 a3 ip:Pos) (j:Nat):Stmt:=
 .If (.BoolOp .And [.Call (.Name "isinstance" p1) [.Name en q1,.Name xC q2] [] r1,.UnaryOp .Not (.Call (.Name "isinstance" p2) [.Name en q3,.Name xD q4] [] r2) u1,.Call (.Name "isinstance" p3) [.Name en q5,.Name "ValueError" q6] [] r3] bp)
  [.Assign [.Name yn a1] (.Constant .none j a2) a3] [] ip
theorem b_ve:bootBuiltins "ValueError" = some (.type "ValueError"):=by decide +kernel
theorem zLw {y:Addr} {oe:Obj} (x:X3 X.K C R D) (hc:oe.cls = .ref C) (hN:X.N.Nodup) (hie:X.N[ie]?=some en) (hle:X.env.scope.names.lookup en=some .local) (hi:X.N[i]?=some yn) (hly:X.env.scope.names.lookup yn=some .local)
  (gi:Gl X "isinstance") (mi:X.mg "isinstance" = none) (gv:Gl X "ValueError") (mv:X.mg "ValueError" = none) (gC:Gl X xC) (mC:X.mg xC=some (.ref C)) (gD:Gl X xD) (mD:X.mg xD=some (.ref D))
  (de:nDb en:=by decide) (dC:nDb xC:=by decide) (dD:nDb xD:=by decide) (ce:(en == ("__classdict__" : Str))=false:=by decide) :
  PSs (hdP X y oe).nox [zS0 en xC xD yn q1 q2 q3 q4 q5 q6 p1 p2 p3 r1 r2 r3 u1 bp a1 a2 a3 ip j] (λDs σ H=>σ[ie]?=some (some (.ref y))/\Ds.nx (σ.set i (some .non)) H):=by
 have cl:=zN4 (X:=X.nox) (y:=y) x hc
 have v:∀ q,PE (hdP X y oe).nox (.Name en q) (zDq ie):=λq=>zOg hie (.inl hle) de ce
 have c1:PE (hdP X y oe).nox (.Call (.Name "isinstance" p1) [.Name en q1,.Name xC q2] [] r1) _:=zAJ cl gi mi zAr (zt (v q1) (zt (zKT (v:=.ref C) gC mC rfl dC) yp))
 have c2:PE (hdP X y oe).nox (.Call (.Name "isinstance" p2) [.Name en q3,.Name xD q4] [] r2) _:=zAJ cl gi mi zAr (zt (v q3) (zt (zKT (v:=.ref D) gD mD rfl dD) yp))
 have c3:PE (hdP X y oe).nox (.Call (.Name "isinstance" p3) [.Name en q5,.Name "ValueError" q6] [] r3) _:=zAJ cl gi mi zAr (zt (v q5) (zt (zKU (v:=.ty "ValueError") gv mv b_ve rfl) yp))
 have all:=zF7 (X:=(hdP X y oe).nox) (zPd (pos:=ip) (PW.pt (zKX (pos:=bp) (zKV c1) (zKX (pos:=bp) (zOk (pos:=u1) (zKV c2)) (zKW (pos:=bp) (zKV c3))))) (zF7 (zCM (pos:=a3) (pos':=a1) hN hi (.inl hly) (zOh (j:=j) (pos:=a2)) rfl (.inr hly))) zKY)
 intro pins s σ H Ds I h
 refine all pins s σ H Ds I ?_
 obtain ⟨hσ,h⟩:=h
 refine ⟨_,hσ,.inl ⟨rfl,true,rfl,?_⟩⟩
 simp only [if_true]
 refine ⟨_,hσ,.inr (.inl ⟨rfl,false,rfl,?_⟩)⟩
 simp only [Bool.not_false,if_true]
 refine ⟨_,hσ,.inr (.inr ⟨rfl,true,rfl,?_⟩)⟩
 simp only [if_true]
 exact h
theorem StR.setUn {K:Fg} {G0 H0 G H:Hp} {ρ:Rho} {σ:L2.St} {ie:Nat} (s:StR K G0 H0 G H ρ σ) (h:ρ[ie]?=some .un) (v:Option V):StR K G0 H0 G H ρ (σ.set ie v):=by
 have at_:∀ {i:Nat} {u:Sl},ρ[i]?=some u->u≠.un->(σ.set ie v)[i]?=σ[i]?:=λ{i u} q n=>List.getElem?_set_ne λz=>n (by subst z;rw [h] at q;cases q;rfl)
 have ob:∀ {u:Sl},u.isObj=true->u≠.un:=λo z=>by subst z;cases o
 refine ⟨⟨by rw [List.length_set];exact s.er.len,λi d q=>?_,λi u q o=>?_,λi j u t b c ne q1 o1 q2 o2 h1 h2=>?_⟩,s.bs,λi u a q o h1=>?_⟩
 ·rw [at_ q (by simp)];exact s.er.val i d q
 ·rw [at_ q (ob o)];exact s.er.slot i u q o
 ·rw [at_ q1 (ob (Sl.obj_of_own o1))] at h1
  rw [at_ q2 (ob o2)] at h2
  exact s.er.sep i j u t b c ne q1 o1 q2 o2 h1 h2
 ·rw [at_ q (ob (Sl.obj_of_own o))] at h1
  exact s.ows i u a q o h1
def zHR (i ie cc:Nat) (g:Rho->Option (Except Nat RD.D)):ROo:=λρ=>match ρ[ie]? with
 |some .un=>zHJ g cc (λd ρ=>ρ.set i (.v d)) (λρ=>some (.nx (ρ.set i (.v .non)))) ρ
 |_=>none
theorem zN6 (i ie cc:Nat) {f:List RD.D->Option (Except Nat RD.D)} (h:zNc X.prog X.w X.K X.mg X.base κ k x n f) (hr:zBn k X.A) (hg:X.env.kindOf x=some .globalImplicit) (hn:(e::es).length=n) (ha:SA X.nox (e::es) fl) (hex:X.ex = []) (x3:X3 X.K (κ cc) R D)
  (gR:Gl X xR) (mR:X.mg xR=some (.ref R)) (hst:X.stack=X.env::X.outer) (hfr:X.env.frame=some X.env.locals)
  (hN:X.N.Nodup) (hi:X.N[i]?=some yn) (hly:X.env.scope.names.lookup yn=some .local) (hie:X.N[ie]?=some en) (hle:X.env.scope.names.lookup en=some .local) (hne:i≠ie)
  (gi:Gl X "isinstance") (mi:X.mg "isinstance" = none) (gv:Gl X "ValueError") (mv:X.mg "ValueError" = none) (gC:Gl X xC) (mC:X.mg xC=some (.ref (κ cc))) (gD:Gl X xD) (mD:X.mg xD=some (.ref D))
  (hs:zGB X (.Call (.Name x p) (e::es) [] cpos) (some (.Name yn pos')) epos:=by rfl) (hdb:nDb x:=by decide) (dR:nDb xR:=by decide) (de:nDb en:=by decide) (dC:nDb xC:=by decide) (dD:nDb xD:=by decide) (ce:(en == ("__classdict__" : Str))=false:=by decide)
  (he:stE X e es:=by rfl) (hpl:zDv X cpos es:=by rfl) :
  SS X (.Try [.Assign [.Name yn pos'] (.Call (.Name x p) (e::es) [] cpos) epos] [.ExceptHandler (some (.Name xR np)) (some en) [zS0 en xC xD yn q1 q2 q3 q4 q5 q6 p1 p2 p3 r1 r2 r3 u1 bp a1 a2 a3 ip j] hpos] [] [] pos) (zHR i ie cc (λρ=>(fl ρ).bind f)):=by
 intro pins s σ H Ds I h
 obtain ⟨G0,H0,G,ρ,o,st,ef,k⟩:=h
 unfold zHR at ef
 split at ef
 ·rename_i hun
  obtain ⟨r,e1,e2⟩:=Option.bind_eq_some_iff.mp ef
  refine wpAny_Try_except (wpAny_execs_cons (wpAny_Assign_Name (zLU h hr hg hn ha hex I st.bs.gh st.er e1 (λd hd v u G' H' s' t rd rv J=>?_) (λc hc G' H' s' y T t J fly ny nT=>?_) hdb he hpl) hs))
  ·subst hd
   cases e2
   exact zEA J hN hi (.inl hly) rv (λs2 I2=>wpAny_execs_nil (wpAny_execs_nil ⟨_,H',I2,k _ G' H' ((st.step t).setV rd)⟩)) (.inr hly)
  ·subst hc
   simp only at e2
   split at e2
   ·rename_i hcc
    subst hcc
    cases e2
    refine zN5 x3 gR mR hst hfr J fly ny nT hN hie hle (λoe hc=>zLw x3 hc hN hie hle hi hly gi mi gv mv gC mC gD mD de dC dD ce) ⟨?_,?_⟩ dR
    ·exact List.getElem?_set_self (by rw [J.len];exact (List.getElem?_eq_some_iff.mp hie).1)
    ·have st':=((st.step t).setV (i:=i) (d:=.non) (v:=.non) (zBM.mpr rfl)).setUn (ie:=ie) (by rw [List.getElem?_set_ne hne];exact hun) none
     have:((σ.set ie (some (V.ref y))).set i (some V.non)).set ie none=(σ.set i (some V.non)).set ie none:=by rw [List.set_comm _ _ (λz=>hne z.symm),List.set_set]
     show Ds.nx (((σ.set ie (some (V.ref y))).set i (some V.non)).set ie none) H'
     rw [this]
     exact k _ G' H' st'
   ·cases e2
 ·cases ef
end
end RD
section
local macro_rules | `(tactic| exists $es,*) => let l := ("RD.gV RD.gR RD.zN RD.zP RD.zCg RD.zAV RD.sq RD.sIf RD.bB RD.b1 RD.b2 RD.b3 RD.b1F RD.b2F RD.b3S RD.zP4 RD.zNL RD.gL RD.zOv RD.vOr RD.zP6 RD.bOr RD.zOt RD.zKJ RD.truD RD.asB RD.asI RD.oI RD.zC RD.qJ RD.qG RD.zRp RD.zEq RD.iL RD.iT RD.iR2 RD.iEn RD.zDa RD.asL RD.asT RD.zFn RD.zLF RD.frz RD.qT RD.zH6 RD.zKK RD.zFk RD.zK6 RD.zO3 RD.zDX RD.zGH RD.zKL RD.zSc RD.ltO RD.gtO RD.isO RD.zQC RD.dIn RD.zNU RD.zNV RD.zNW RD.allO RD.anyO RD.isiO RD.slD RD.slF Option.bind_some Option.bind_none Option.map_some Option.map_none List.getElem?_cons_zero List.getElem?_cons_succ List.getElem?_nil List.set_cons_zero List.set_cons_succ List.length_cons List.length_nil List.map_cons List.map_nil List.cons_append List.nil_append List.append_nil List.replicate_succ List.replicate_zero Nat.reduceAdd Nat.reduceSub Nat.reduceLeDiff Nat.reduceLT if_true if_false ite_true ite_false true_and and_true Bool.false_eq_true decide_true decide_false Bool.not_true Bool.not_false List.range_zero Int.toNat_zero List.length_map List.length_append List.length_replicate Nat.zero_add Int.zero_add reduceIte reduceCtorEq Int.reduceLT Int.reduceLE Int.reducePow Int.reduceNeg Int.reduceMul Int.reduceAdd Int.reduceSub Int.reduceToNat true_or or_true and_self or_self Bool.and_self Bool.true_and Bool.and_true Bool.true_or Bool.or_true Bool.false_and Bool.false_or Nat.reduceMul Nat.reducePow Int.reduceEq Nat.reduceEqDiff Int.natCast_zero Int.cast_ofNat_Int Int.ofNat_eq_natCast RD.zK RD.eqD RD.eqL RD.rng RD.zO RD.zi RD.zc RD.dep RD.iR1 RD.inR RD.gM RD.depL".splitOn " ").toArray.map (fun s => (⟨Lean.mkIdent s.toName⟩ : Lean.Term)) ++ es.getElems; `(tactic| simp (config := { decide := true }) only [$[$l:term],*])
local macro_rules | `(tactic| exists 0, $es,*) => let l := ("RD.neO RD.gN RD.gCs RD.gNl RD.gT RD.zj RD.zM RD.zb RD.eqO".splitOn " ").toArray.map (fun s => (⟨Lean.mkIdent s.toName⟩ : Lean.Term)) ++ es.getElems; `(tactic| exists $[$l:term],*)
namespace LG
open PySem L2 RD
abbrev zDe:List Str:=["_law_script","_law_k"]
def zCG:ROo:=(sq (sIf (bB (b2 (gR 1) (b1 (gR 0) zDX) ltO)) (zAV (b2 (gR 0) (gR 1) ixO)) (λρ=>some (Out.nx ρ))) (zAV (zN 0)))
def z6 (ds:List D):Option D:=zCg zDe zCG ds
abbrev zEx:List Str:=["_law_cell_here","_law_prime","_law_many"]
def zEy:ROo:=(zAV (b2 (b2 (b2 (gR 0) (zN 48271) zKK) (gR 1) zFk) (gR 2) zFk))
def zQ (ds:List D):Option D:=zCg zEx zEy ds
def zBx:ROo:=(sq (qJ 5 (λρ=>((zC (gV 0) (zC (zN 9883) (zC (b2 (b1 (gR 4) zDX) (zN 1) qT) zP))) ρ).bind zQ)) (zAV (b2 (b2 (b3S (gR 4) (λ_=>some none) (oI (gV 5)) slD) (gR 3) qT) (b3S (gR 4) (oI (gV 5)) (λ_=>some none) slD) qT)))
def zAB:ROo:=(sq (qJ 4 (b1 (λρ=>((zK 1 (iR1 (zC (λρ=>((zC (gV 0) (zC (zN 9887) (zC (zN 3) zP))) ρ).bind zQ) zP)) (gN 6) (λ_=>some true) (b2 (gR 2) (λρ=>((zC (b2 (gR 0) (b2 (zN 3) (gR 6) zKK) qT) (zC (zN 9941) (zC (zN 26) zP))) ρ).bind zQ) ixO)) ρ).map D.lst) (zJv ""))) zBx)
abbrev zDf:List Str:=["_law_cell_here","_law_j","_law_letters","_law_sign","_law_tail","_law_at"]
def zDg:ROo:=(sq (qJ 2 (λ_=>some (D.str "abcdefghijklmnopqrstuvwxyz"))) (sq (qJ 3 (b2 (gR 2) (b2 (b2 (λρ=>((zC (gV 0) (zC (zN 9923) (zC (zN 26) zP))) ρ).bind zQ) (b2 (zN 9) (gR 1) zKK) qT) (zN 26) zFk) ixO)) zAB))
def zk (ds:List D):Option D:=zCg zDf zDg ds
abbrev zBS:List Str:=["_law_cell_here","_law_many"]
def zAK:ROo:=(zAV (zOv (b2 (b2 (gR 0) (zN 4) zFk) (zN 2) eqO) (b2 (gR 1) (zN 2) gtO)))
def yL (ds:List D):Option D:=zCg zBS zAK ds
abbrev zDh:List Str:=["_law_cell_here","_law_many","_law_rows"]
def zDi:ROo:=(sq (qJ 2 (b2 (b2 (gR 1) (zN 2) zH6) (b1 (λρ=>((zC (gV 0) (zC (gV 1) zP)) ρ).bind yL) zSc) qT)) (zAV (b2 (b2 (zN 1) (b2 (b2 (zN 1) (λρ=>((zC (gV 0) (zC (zN 9949) (zC (zN 3) zP))) ρ).bind zQ) qT) (gR 2) zKK) qT) (b1 (b2 (λρ=>((zC (gV 0) (zC (zN 9931) (zC (zN 3) zP))) ρ).bind zQ) (zN 0) gtO) zSc) qT)))
def zBC (ds:List D):Option D:=zCg zDh zDi ds
def zDj:ROo:=(sq (qJ 12 (b2 (λρ=>((zC (b2 (b2 (gR 10) (gR 11) qT) (zN 1) qT) (zC (b2 (gR 1) (gR 8) ixO) zP)) ρ).map D.lst) (b1 (b2 (gR 11) (b2 (gR 7) (zN 1) zH6) eqO) zSc) ixO)) (zFn 5 (λρ=>((zC (λ_=>some (D.str "tell")) (zC (b2 (gR 3) (zN 0) ixO) (zC (b2 (gR 3) (gR 11) ixO) (zC (λρ=>((zC (λρ=>((zC (gV 9) (zC (gV 12) zP)) ρ).map D.tup) zP) ρ).map D.tup) zP)))) ρ).map D.tup)))
def zDk:ROo:=(sq (qJ 10 (b2 (b2 (gR 0) (zN 1) qT) (b2 (gR 8) (gR 7) zKK) qT)) (sq (zFn 6 (λρ=>((zC (gV 9) (zC (gV 10) zP)) ρ).map D.tup)) (sq (zFn 5 (λρ=>((zC (λ_=>some (D.str "tell")) (zC (gV 2) (zC (b2 (gR 3) (zN 1) ixO) (zC (λρ=>((zC (λρ=>((zC (b2 (gR 4) (zN 0) ixO) (zC (b2 (gR 10) (zN 1) qT) zP)) ρ).map D.tup) zP) ρ).map D.tup) zP)))) ρ).map D.tup)) (zc (iR2 (zC (zN 1) (zC (gV 7) zP))) (gN 11) zDj))))
abbrev zAY:List Str:=["_law_start","_law_goals","_law_one","_law_others","_law_words","_law_rows","_law_choices","_law_size_here","_law_j","_law_word_here","_law_at","_law_k","_law_after"]
def zBy:ROo:=(sq (qG 5 zP) (sq (qG 6 zP) (sq (qJ 7 (b1 (gR 3) zDX)) (sq (zc (iEn (gV 4)) (gT 2 (gCs (gN 8) (gCs (gN 9) gNl))) zDk) (zAV (λρ=>((b2F (λρ=>((zC (λρ=>((zC (λ_=>some (D.str "tell")) (zC (gV 2) (zC (b2 (gR 3) (zN 0) ixO) (zC (b1 (gR 6) zGH) zP)))) ρ).map D.tup) zP) ρ).map D.lst) (gR 5) zi) ρ).map D.lst))))))
def yv (ds:List D):Option D:=zCg zAY zBy ds
def zEz:ROo:=(zFn 7 (λρ=>((zC (λ_=>some (D.str "tell")) (zC (gV 4) (zC (b2 (gR 5) (b2 (gR 12) (zN 1) qT) ixO) (zC (λρ=>((zC (λρ=>((zC (gV 10) (zC (b2 (gR 11) (b2 (gR 12) (zN 1) qT) ixO) zP)) ρ).map D.tup) zP) ρ).map D.tup) zP)))) ρ).map D.tup))
def zE0:ROo:=(sq (qJ 11 (λρ=>((b2F (λρ=>((zK 1 (iR1 (zC (b2 (gR 2) (zN 2) zH6) zP)) (gN 13) (λ_=>some true) (b2 (b2 (b2 (gR 1) (zN 1) qT) (b2 (gR 9) (b2 (gR 2) (zN 2) zH6) zKK) qT) (gR 13) qT)) ρ).map D.lst) (λρ=>((zC (b2 (gR 3) (gR 9) ixO) zP) ρ).map D.lst) zi) ρ).map D.lst)) (sq (zFn 8 (λρ=>((zC (gV 10) (zC (b2 (gR 11) (zN 0) ixO) zP)) ρ).map D.tup)) (zc (iR1 (zC (b2 (gR 2) (zN 2) zH6) zP)) (gN 12) zEz)))
def zAZ:ROo:=(sq (qG 7 zP) (sq (qG 8 zP) (sq (zc (iEn (gV 6)) (gT 2 (gCs (gN 9) (gCs (gN 10) gNl))) zE0) (zAV (λρ=>((b2F (λρ=>((zC (λρ=>((zC (λ_=>some (D.str "tell")) (zC (gV 4) (zC (b2 (gR 5) (zN 0) ixO) (zC (b1 (gR 8) zGH) zP)))) ρ).map D.tup) zP) ρ).map D.lst) (gR 7) zi) ρ).map D.lst)))))
def yX:ROo:=(sq (sIf (zKJ (λρ=>((zC (gV 0) (zC (gV 2) zP)) ρ).bind yL)) (zAV (λρ=>((zC (gV 1) (zC (gV 3) (zC (gV 4) (zC (gV 5) (zC (gV 6) zP))))) ρ).bind yv)) (λρ=>some (Out.nx ρ))) zAZ)
def zAa:ROo:=(sq (qJ 6 (λρ=>((b1F (λρ=>((zK 1 (iR1 (zC (b2 (zN 1) (λρ=>((zC (gV 0) (zC (zN 9949) (zC (zN 3) zP))) ρ).bind zQ) qT) zP)) (gN 13) (λ_=>some true) (λρ=>((zC (gV 0) (zC (gV 13) zP)) ρ).bind zk)) ρ).map D.lst) zAq) ρ).map D.lst)) yX)
abbrev zBT:List Str:=["_law_cell_here","_law_start","_law_many","_law_goals","_law_one","_law_others","_law_words","_law_rows","_law_choices","_law_j","_law_word_here","_law_afters","_law_k"]
def zC6:ROo:=(sq (qJ 4 (λρ=>((zC (gV 0) (zC (zN 9929) (zC (gV 2) zP))) ρ).bind zQ)) (sq (qJ 5 λρ=>((zK 1 (iR1 (zC (b2 (gR 2) (zN 1) zH6) zP)) (gN 13) (λ_=>some true) (b2 (b2 (b2 (gR 4) (zN 1) qT) (b2 (b2 (gR 13) (λρ=>((zC (gV 0) (zC (zN 9901) (zC (b2 (gR 2) (zN 1) zH6) zP))) ρ).bind zQ) qT) (b2 (gR 2) (zN 1) zH6) zFk) qT) (gR 2) zFk)) ρ).map D.lst) zAa))
def qW (ds:List D):Option D:=zCg zBT zC6 ds
abbrev zAb:List Str:=["_law_cell_here","_law_here","_law_many","_law_goal","_law_one","_law_other","_law_words"]
def qX:ROo:=(sq (qJ 4 (λρ=>((zC (gV 0) (zC (zN 9871) (zC (gV 2) zP))) ρ).bind zQ)) (sq (qJ 5 (b2 (b2 (b2 (gR 4) (zN 1) qT) (λρ=>((zC (gV 0) (zC (zN 9859) (zC (b2 (gR 2) (zN 1) zH6) zP))) ρ).bind zQ) qT) (gR 2) zFk)) (sq (qJ 6 (λρ=>((b1F (λρ=>((zC (λρ=>((zC (b2 (gR 0) (zN 1) qT) (zC (zN 0) zP)) ρ).bind zk) (zC (λρ=>((zC (b2 (gR 0) (zN 1) qT) (zC (zN 1) zP)) ρ).bind zk) zP)) ρ).map D.lst) zAq) ρ).map D.lst)) (sq (sIf (bB (b2 (λρ=>((zC (gV 0) (zC (zN 9931) (zC (zN 3) zP))) ρ).bind zQ) (zN 1) eqO)) (zAV (λρ=>((zC (λ_=>some (D.str "tell")) (zC (gV 4) (zC (gV 5) (zC (λρ=>((zC (λρ=>((zC (b2 (gR 6) (zN 0) ixO) (zC (gV 3) zP)) ρ).map D.tup) zP) ρ).map D.tup) zP)))) ρ).map D.tup)) (λρ=>some (Out.nx ρ))) (zAV (λρ=>((zC (λ_=>some (D.str "tell")) (zC (gV 4) (zC (gV 5) (zC (λρ=>((zC (λρ=>((zC (b2 (gR 6) (zN 0) ixO) (zC (b2 (λρ=>((zC (gV 1) (zC (gV 3) zP)) ρ).map D.lst) (b2 (gR 0) (zN 2) zFk) ixO) zP)) ρ).map D.tup) (zC (λρ=>((zC (b2 (gR 6) (zN 1) ixO) (zC (b2 (λρ=>((zC (gV 3) (zC (gV 1) zP)) ρ).map D.lst) (b2 (gR 0) (zN 2) zFk) ixO) zP)) ρ).map D.tup) zP)) ρ).map D.tup) zP)))) ρ).map D.tup))))))
def yY (ds:List D):Option D:=zCg zAb qX ds
def qB:ROo:=(zFn 3 (b2 (b2 (gR 3) (b1 (zN 1) zO3) ixO) (λρ=>((zC (gV 4) (zC (gV 1) zP)) ρ).bind zBC) qT))
def qY:ROo:=(sq (qG 7 (zK 1 (iR1 (zC (zN 3) zP)) (gN 9) (λ_=>some true) (b2 (gR 3) (λρ=>((zC (b2 (gR 4) (b2 (zN 7) (gR 9) zKK) qT) (zC (zN 9907) (zC (b1 (gR 3) zDX) zP))) ρ).bind zQ) ixO))) (sq (qJ 8 (b2 (gR 7) (zN 0) ixO)) (sq (sIf (bB (b2 (λρ=>((zC (gV 4) (zC (zN 9931) (zC (zN 3) zP))) ρ).bind zQ) (zN 0) gtO)) (zLF 7 (zN 0) (b2 (b2 (gR 3) (b2 (gR 6) (zN 1) qT) ixO) (zN 1) zH6)) (λρ=>some (Out.nx ρ))) (λρ=>(sq (qG 5 (b2F (gR 5) (λρ=>((zC (gV 4) (zC (b2 (gR 3) (gR 6) ixO) (zC (gV 1) (zC (gV 7) zP)))) ρ).bind qW) zi)) (sIf (bB (b2 (λρ=>((zC (gV 4) (zC (zN 9931) (zC (zN 3) zP))) ρ).bind zQ) (zN 0) gtO)) (zFn 5 (λρ=>((zC (gV 4) (zC (b2 (b2 (gR 3) (b2 (gR 6) (zN 1) qT) ixO) (zN 1) zH6) (zC (gV 1) (zC (gV 8) zP)))) ρ).bind yY)) (λρ=>some (Out.nx ρ)))) (frz 7 ρ)))))
abbrev zCj:List Str:=["_law_script","_law_many","_law_cells","_law_starts","_law_cell_here","_law_places","_law_k","_law_goals","_law_after"]
def zBU:ROo:=(sq (qJ 1 (b2 (zN 2) (λρ=>((zC (λρ=>((zC (gV 0) (zC (zN 0) zP)) ρ).bind z6) (zC (zN 9973) (zC (zN 3) zP))) ρ).bind zQ) qT)) (sq (qJ 2 λρ=>((zK 1 (iR1 (zC (b2 (zN 1) (λρ=>((zC (λρ=>((zC (gV 0) (zC (zN 0) zP)) ρ).bind z6) (zC (zN 9967) (zC (zN 3) zP))) ρ).bind zQ) qT) zP)) (gN 9) (λ_=>some true) (λρ=>((zC (gV 0) (zC (b2 (zN 1) (gR 9) qT) zP)) ρ).bind z6)) ρ).map D.lst) (sq (qG 3 (zC (zN 0) zP)) (sq (zc (iL (gV 2)) (gN 4) qB) (sq (qG 5 zP) (sq (zc (iEn (gV 2)) (gT 2 (gCs (gN 6) (gCs (gN 4) gNl))) qY) (zAV (λρ=>((zC (gV 1) (zC (b1 (λρ=>((b2F (gR 5) (λρ=>((zC (λρ=>((zC (λ_=>some (D.str "end")) zP) ρ).map D.tup) zP) ρ).map D.lst) zi) ρ).map D.lst) zGH) zP)) ρ).map D.tup))))))))
def zAc (ds:List D):Option D:=zCg zCj zBU ds
def mix (c p m:Int):Int:=c*48271%p%m
theorem qE (c p:Int) {m:Int} (h:0<m):0<=mix c p m:=Int.emod_nonneg _ (by omega)
theorem qF (c p:Int) {m:Int} (h:0<m):mix c p m<m:=Int.emod_lt_of_pos _ h
theorem zQ3 {d:Int} (h0:0<=d) (h1:d<3):d=0\/d=1\/d=2:=by
 obtain ⟨n,rfl⟩:=Int.eq_ofNat_of_zero_le h0
 exact (by decide:∀ n:Nat,n<3->(n:Int)=0\/(n:Int)=1\/(n:Int)=2) n (Int.ofNat_lt.mp h1)
theorem zBm {c p m:Int} (hp:0<p) (hm:0<m):zQ [.int c,.int p,.int m]=some (.int (mix c p m)):=by
 exists 0,zQ,zEy,hp,hm,mix,atI,ixN,ixO
theorem zQ4 {ns:List Int} {k:Int} (h0:0<=k) (h:k<ns.length):atI (ns.map D.int) k=some (.int (ns.getD k.toNat 0)):=by
 have h2:k.toNat<ns.length:=by omega
 simp [atI,ixN,h0,h,h2]
theorem zLx {ns:List Int} {k:Int} (h0:0<=k):z6 [.lst (ns.map D.int),.int k]=some (.int (ns.getD k.toNat 0)):=by
 by_cases h:k<ns.length
 ·exists 0,z6,zCG,h,zQ4 h0 h,ixO
 ·have h2:ns.getD k.toNat 0=0:=by
   have:ns[k.toNat]?=none:=by simp;omega
   simp [List.getD,this]
  exists 0,z6,zCG,h,h2,ixO
def zKN (c m:Int):Bool:=decide (c%4=2) && decide (2<m)
theorem zLy:yL [.int c,.int m]=some (.bl (zKN c m)):=by
 by_cases e:c%4=2
 ·simp [yL,zAK,zCg,zAV,b2,zNL,zFk,zOv,eqO,dep,eqD,asB,gtO,e,zKN]
 ·simp [yL,zAK,zCg,zAV,b2,zNL,zFk,zOv,eqO,dep,eqD,asB,gtO,e,zKN]
def lc (k:Int):Nat:=(97+k).toNat
theorem zQ5 (h0:0<=i) (h1:i<26):atI (Str.ofString "abcdefghijklmnopqrstuvwxyz").cps.toList i=some (lc i):=by
 have q:∀ k:Fin 26,atI (Str.ofString "abcdefghijklmnopqrstuvwxyz").cps.toList (k.1:Int)=some (lc (k.1:Int)):=by decide +kernel
 have q:=q ⟨i.toNat,by omega⟩
 rwa [show ((i.toNat:Nat):Int)=i from Int.toNat_of_nonneg h0] at q
theorem zIF:(Str.ofString "abcdefghijklmnopqrstuvwxyz").length<=1000000:=by decide +kernel
theorem zE1 {i:Int} (h0:0<=i) (h1:i<26):ixO (.str (Str.ofString "abcdefghijklmnopqrstuvwxyz")) (.int i)=some (.str ⟨#[lc i]⟩):=by
 simp only [ixO,zIF,if_true,zQ5 h0 h1,Option.map_some]
theorem zQ6 {i:Int} (h0:0<=i) (h1:i<26):97<=lc i/\lc i<=122:=by unfold lc;omega
def sg (c j:Int):Nat:=lc ((mix c 9923 26+9*j)%26)
theorem sg_ok (c j:Int):97<=sg c j/\sg c j<=122:=zQ6 (Int.emod_nonneg _ (by decide)) (Int.emod_lt_of_pos _ (by decide))
theorem emp:(Str.ofString "")=⟨#[]⟩:=by decide +kernel
theorem pick (l:List Nat):∀ (k i:Nat),i+k<=l.length->((List.range k).map (λm=>i+m)).filterMap (λj=>l.toArray[j]?)=(l.drop i).take k
 |0,i,_=>by simp
 |k+1,i,h=>by
  have hi:i<l.length:=by omega
  have e:(List.range (k+1)).map (λm=>i+m)=i::(List.range k).map (λm=>i+1+m):=by
   rw [List.range_succ_eq_map,List.map_cons,List.map_map]
   congr 1
   apply List.map_congr_left
   intro a _
   simp only [Function.comp]
   omega
  rw [e,List.filterMap_cons,pick l k (i+1) (by omega)]
  have e2:l.toArray[i]?=some l[i]:=by simp [hi]
  rw [e2,List.drop_eq_getElem_cons hi,List.take_succ_cons]
theorem zHS (a:Int) (n i:Nat) (h:a=(i:Int)):(List.range n).map (λ(k:Nat)=>(a+1*(k:Int)).toNat)=(List.range n).map (λm=>i+m):=by
 apply List.map_congr_left
 intro k _
 subst h
 omega
theorem zFv (l:List Nat) (n:Nat) (h:n<=l.length):Txt.slice ⟨l.toArray⟩ none (some (n:Int))=⟨(l.take n).toArray⟩:=by
 have e1:Builtin.Str.strSliceIndices none (some (n:Int)) 1 l.length=(List.range n).map (λm=>0+m):=by
  unfold Builtin.Str.strSliceIndices sliceRange
  have h1:(1:Int)>0:=by decide
  have h2:¬ ((n:Int)<0):=Int.not_lt.mpr (Int.natCast_nonneg n)
  have h3:max 0 (min (n:Int) (l.length:Int))=(n:Int):=by rw [Int.min_eq_left (Int.ofNat_le.mpr h),Int.max_eq_right (Int.natCast_nonneg n)]
  simp only [h1,if_true,h2,if_false,h3]
  have h4:(if (0:Int)<(n:Int) then ((n:Int)-0+1-1)/1 else 0).toNat=n:=by
   split
   ·rw [Int.ediv_one];omega
   ·omega
  rw [h4]
  exact zHS 0 n 0 rfl
 unfold Txt.slice
 have e0:(⟨l.toArray⟩:Str).length=l.length:=by simp [Str.length]
 rw [e0,e1]
 split
 ·rename_i q
  have:n=l.length:=by simpa using q
  subst this
  rw [List.take_length]
 ·have:=pick l n 0 (by omega)
  rw [List.drop_zero] at this
  exact congrArg (λx=>(⟨x.toArray⟩:Str)) this
theorem zJ1 (l:List Nat) (n:Nat) (h:n<=l.length):Txt.slice ⟨l.toArray⟩ (some (n:Int)) none=⟨(l.drop n).toArray⟩:=by
 have e1:Builtin.Str.strSliceIndices (some (n:Int)) none 1 l.length=(List.range (l.length-n)).map (λm=>n+m):=by
  unfold Builtin.Str.strSliceIndices sliceRange
  have h1:(1:Int)>0:=by decide
  have h2:¬ ((n:Int)<0):=Int.not_lt.mpr (Int.natCast_nonneg n)
  have h3:max 0 (min (n:Int) (l.length:Int))=(n:Int):=by rw [Int.min_eq_left (Int.ofNat_le.mpr h),Int.max_eq_right (Int.natCast_nonneg n)]
  simp only [h1,if_true,h2,if_false,h3]
  have h4:(if (n:Int)<(l.length:Int) then ((l.length:Int)-(n:Int)+1-1)/1 else 0).toNat=l.length-n:=by
   rw [Int.ediv_one,Int.add_sub_cancel]
   split
   ·exact Int.toNat_sub ..
   ·rename_i q;exact (Nat.sub_eq_zero_of_le (Int.ofNat_le.mp (Int.not_lt.mp q))).symm
  rw [h4]
  exact zHS (n:Int) _ n rfl
 unfold Txt.slice
 have e0:(⟨l.toArray⟩:Str).length=l.length:=by simp [Str.length]
 rw [e0,e1]
 split
 ·rename_i q
  have:n=0:=by
   have q':l.length-n=l.length:=by simpa using q
   cases l with
   |nil=>simpa using h
   |cons _ _=>simp at q';omega
  subst this
  rfl
 ·have:=pick l (l.length-n) n (by omega)
  have e3:(l.drop n).take (l.length-n)=l.drop n:=by
   rw [<- List.length_drop];exact List.take_length
  rw [e3] at this
  exact congrArg (λx=>(⟨x.toArray⟩:Str)) this
theorem zLz (a b:List Nat):(⟨a.toArray⟩:Str)++(⟨b.toArray⟩:Str)=⟨(a++b).toArray⟩:=by
 show Str.append _ _=_
 simp [Str.append]
theorem zIG (a:List Nat):(⟨a.toArray⟩:Str).length=a.length:=by simp [Str.length]
theorem join0:Txt.join ⟨#[]⟩ []=⟨([]:List Nat).toArray⟩:=rfl
theorem join1 (A:Nat):Txt.join ⟨#[]⟩ [⟨#[A]⟩]=⟨[A].toArray⟩:=rfl
theorem join2 (A B:Nat):Txt.join ⟨#[]⟩ [⟨#[A]⟩,⟨#[B]⟩]=⟨[A,B].toArray⟩:=rfl
theorem zIH (A:Nat):(⟨#[A]⟩:Str).length=1:=rfl
theorem zII:(⟨#[]⟩:Str).length=0:=rfl
theorem zN7 (A:Nat):(⟨#[A]⟩:Str)=⟨[A].toArray⟩:=rfl
theorem zL0 (c:Int):∃ T:List Nat,(∀ x∈T,97<=x/\x<=122)/\T.length<=2/\∀ s1 s3 s4 s5:Sl,zAB [.v (.int c),s1,.v (.str (Str.ofString "abcdefghijklmnopqrstuvwxyz")),s3,s4,s5]=zBx [.v (.int c),s1,.v (.str (Str.ofString "abcdefghijklmnopqrstuvwxyz")),s3,.v (.str ⟨T.toArray⟩),s5]:=by
 have h1:=qE c 9887 (m:=3) (by decide)
 have h2:=qF c 9887 (m:=3) (by decide)
 have g0:=zE1 (qE (c+0) 9941 (m:=26) (by decide)) (qF (c+0) 9941 (m:=26) (by decide))
 have g1:=zE1 (qE (c+3) 9941 (m:=26) (by decide)) (qF (c+3) 9941 (m:=26) (by decide))
 have o0:=zQ6 (qE (c+0) 9941 (m:=26) (by decide)) (qF (c+0) 9941 (m:=26) (by decide))
 have o1:=zQ6 (qE (c+3) 9941 (m:=26) (by decide)) (qF (c+3) 9941 (m:=26) (by decide))
 have r2:List.range 2 = [0,1]:=rfl
 rcases zQ3 h1 h2 with e|e|e
 ·exact ⟨[],by simp,by simp,λs1 s3 s4 s5=>by exists 0,zAB,zBm,e,r2,zJv,zD9,emp,join0,zIH,zII,List.sum_cons,List.sum_nil,Int.toNat_one,List.range_zero⟩
 ·exact ⟨[lc (mix (c+0) 9941 26)],by simpa using o0,by simp,λs1 s3 s4 s5=>by exists 0,zAB,zBm,e,r2,zJv,zD9,emp,join1,zIH,zII,List.sum_cons,List.sum_nil,Int.toNat_one,List.range_one,g0⟩
 ·exact ⟨[lc (mix (c+0) 9941 26),lc (mix (c+3) 9941 26)],by simpa using And.intro o0 o1,by simp,λs1 s3 s4 s5=>by exists 0,zAB,zBm,e,r2,zJv,zD9,emp,join2,zIH,zII,List.sum_cons,List.sum_nil,Int.toNat_one,Int.natCast_one,g0,g1⟩
theorem zQ7 (c:Int):∃ pre post:List Nat,(∀ x∈pre++post,97<=x/\x<=122)/\pre.length+post.length<=2/\∀ j:Int,zk [.int c,.int j]=some (.str ⟨(pre++sg c j::post).toArray⟩):=by
 obtain ⟨T,o,q1,ht⟩:=zL0 c
 have h1:=qE c 9883 (m:=(T.length:Int)+1) (by omega)
 have h2:=qF c 9883 (m:=(T.length:Int)+1) (by omega)
 obtain ⟨n,en⟩:∃ n:Nat,mix c 9883 ((T.length:Int)+1)=(n:Int):=⟨(mix c 9883 ((T.length:Int)+1)).toNat,by omega⟩
 have hn:n<=T.length:=by omega
 have hs:∀ j:Int,ixO (.str (Str.ofString "abcdefghijklmnopqrstuvwxyz")) (.int ((mix c 9923 26+9*j)%26))=some (.str ⟨#[sg c j]⟩):=λj=>zE1 (Int.emod_nonneg _ (by decide)) (Int.emod_lt_of_pos _ (by decide))
 have e1:=zFv T n hn
 have e2:=zJ1 T n hn
 have q2:T.length<=1000000:=by omega
 have q3:(0:Int)<(T.length:Int)+1:=by omega
 have l1:(T.take n).length<=999999:=by simp;omega
 have l2:(T.take n).length+1+(T.drop n).length<=1000000:=by simp;omega
 refine ⟨T.take n,T.drop n,by rwa [List.take_append_drop],by simp;omega,λj=>?_⟩
 exists 0,zk,zDg,zBx,ht,zBm,hs,zIG,en,e1,e2,zN7,zLz,q2,q3,l1,l2,List.length_singleton,List.append_assoc
def Lt (a b:Str):Prop:=ltS a b=true
theorem Lt.def {a b:Str}:Lt a b↔a.cps.toList<b.cps.toList:=by simp [Lt,ltS]
theorem zL1 {a b:Str} (h:a.cps.toList=b.cps.toList):a=b:=by
 cases a;cases b;simp only [Str.mk.injEq];exact Array.toList_inj.mp h
theorem Lt.trans (h:Lt a b) (k:Lt b c):Lt a c:=by
 rw [Lt.def] at *;exact List.lt_trans h k
theorem Lt.irrefl:¬ Lt a a:=by rw [Lt.def];exact List.lt_irrefl _
theorem Lt.total (h:¬ Lt b a) (n:a≠b):Lt a b:=by
 rw [Lt.def] at *
 rcases List.le_total (l₁:=a.cps.toList) (l₂:=b.cps.toList) with q|q
 ·rcases Classical.em (a.cps.toList<b.cps.toList) with z|z
  ·exact z
  ·exact absurd (zL1 (List.le_antisymm q (List.not_lt.mp z))) n
 ·exact absurd (zL1 (List.le_antisymm (List.not_lt.mp h) q)) n
theorem Lt.ne (h:Lt a b):a≠b:=λe=>by subst e;exact Lt.irrefl h
abbrev zAd (l:List Str):Prop:=l.Pairwise Lt
theorem zGU:∀ {l:List Str},y∈zH8 x l↔y=x\/y∈l
 | []=>by simp [zH8]
 |z::l=>by
  simp only [zH8]
  split
  ·simp only [List.mem_cons,zGU (l:=l)]
   constructor
   ·rintro (h|h|h)<;>simp [h]
   ·rintro (h|h|h)<;>simp [h]
  ·simp
theorem zE2:∀ {l:List Str},zAd l->(∀ y∈l,x≠y)->zAd (zH8 x l)
 | [],_,_=>by simp [zH8]
 |z::l,h,n=>by
  obtain ⟨h1,h2⟩:=List.pairwise_cons.mp h
  simp only [zH8]
  split
  ·rename_i q
   refine List.pairwise_cons.mpr ⟨λy hy=>?_,zE2 h2 λy hy=>n y (List.mem_cons_of_mem _ hy)⟩
   rcases zGU.mp hy with rfl|hy
   ·exact q
   ·exact h1 y hy
  ·rename_i q
   have hz:Lt x z:=Lt.total (by simpa [Lt] using q) (n z List.mem_cons_self)
   exact List.pairwise_cons.mpr ⟨λy hy=>by
    rcases List.mem_cons.mp hy with rfl|hy
    ·exact hz
    ·exact hz.trans (h1 y hy),h⟩
theorem zC7:∀ {l:List Str},y∈zA8 l↔y∈l
 | []=>by simp [zA8]
 |x::l=>by simp only [zA8,zGU,zC7 (l:=l),List.mem_cons]
theorem zJG:∀ {l:List Str},(zH8 x l).length=l.length+1
 | []=>rfl
 |z::l=>by simp only [zH8];split<;>simp [zJG (l:=l)]
theorem zC8:∀ {l:List Str},(zA8 l).length=l.length
 | []=>rfl
 |x::l=>by simp only [zA8,zJG,zC8 (l:=l),List.length_cons]
theorem zD2:∀ {l:List Str},l.Nodup->zAd (zA8 l)
 | [],_=>by simp [zA8]
 |x::l,h=>by
  obtain ⟨h1,h2⟩:=List.nodup_cons.mp h
  exact zE2 (zD2 h2) λy hy e=>h1 (by subst e;exact zC7.mp hy)
theorem strs_map (l:List Str):RD.zD9 (l.map D.str)=some l:=by
 induction l with
 |nil=>rfl
 |cons x xs ih=>simp [RD.zD9,ih]
theorem zHT {l:List Str} (h:l.length<64):zAq (.lst (l.map D.str))=some ((zA8 l).map D.str):=by
 cases l with
 |nil=>rfl
 |cons x xs=>
  have e:=strs_map (x::xs)
  simp only [List.map_cons] at e
  simp only [zAq,zEk,zKL,Option.bind_some,List.map_cons,List.length_cons,List.length_map,zJt]
  rw [if_pos (by simpa using h),e]
  simp
def okW (w:Str):Prop:=1<=w.length/\w.length<=3/\∀ x∈w.cps.toList,97<=x/\x<=122
theorem zQ8 {α:Type} {l:List α} (h:l.length=3):∃ a b c,l = [a,b,c]:=by
 match l,h with
 | [a,b,c],_=>exact ⟨a,b,c,rfl⟩
theorem zPE {α:Type} {l:List α} (h:l.length=2):∃ a b,l = [a,b]:=by
 match l,h with
 | [a,b],_=>exact ⟨a,b,rfl⟩
theorem zRv {α:Type} {l:List α} (h:l.length=1):∃ a,l = [a]:=by
 match l,h with
 | [a],_=>exact ⟨a,rfl⟩
theorem zN8 (c:Int):∃ W:Int->Str,(∀ j,okW (W j))/\(∀ j,zk [.int c,.int j]=some (.str (W j)))/\W 0≠W 1/\W 0≠W 2/\W 1≠W 2:=by
 obtain ⟨pre,post,h1,h2,h3⟩:=zQ7 c
 have inj:∀ i j:Int,sg c i≠sg c j->(⟨(pre++sg c i::post).toArray⟩:Str)≠⟨(pre++sg c j::post).toArray⟩:=λi j n e=>by
  have e2:=congrArg (λs:Str=>s.cps.toList) e
  simp at e2
  exact n e2
 have b0:=qE c 9923 (m:=26) (by decide)
 have b1:=qF c 9923 (m:=26) (by decide)
 obtain ⟨n,en⟩:=Int.eq_ofNat_of_zero_le b0
 rw [en] at b1
 have z:=(by decide:∀ n:Nat,n<26->lc (((n:Int)+9*0)%26)≠lc (((n:Int)+9*1)%26)/\lc (((n:Int)+9*0)%26)≠lc (((n:Int)+9*2)%26)/\lc (((n:Int)+9*1)%26)≠lc (((n:Int)+9*2)%26)) n (Int.ofNat_lt.mp b1)
 rw [<- en] at z
 refine ⟨λj=>⟨(pre++sg c j::post).toArray⟩,λj=>⟨by simp [Str.length];omega,by simp [Str.length];omega,λx hx=>?_⟩,h3,inj 0 1 z.1,inj 0 2 z.2.1,inj 1 2 z.2.2⟩
 ·simp at hx
  rcases hx with hx|rfl|hx
  ·exact h1 x (by simp [hx])
  ·exact sg_ok c j
  ·exact h1 x (by simp [hx])
inductive Pl where
 |fin|tell (a b:Int) (ch:List (Str×Int))
def chD (p:Str×Int):D:=.tup [.str p.1,.int p.2]
def plD:Pl->D
 |.fin=>.tup [.str "end"]
 |.tell a b ch=>.tup [.str "tell",.int a,.int b,.tup (ch.map chD)]
structure okT (m:Int) (P:Int->Prop) (a b:Int) (ch:List (Str×Int)):Prop where
 a0:0<=a
 a1:a<m
 b0:0<=b
 b1:b<m
 ne:a≠b
 l0:1<=ch.length
 l1:ch.length<=3
 rs:zAd (ch.map (·.1))
 wd:∀ p∈ch,okW p.1
 nx:∀ p∈ch,P p.2
def okP (m:Int) (P:Int->Prop):Pl->Prop
 |.fin=>True
 |.tell a b ch=>okT m P a b ch
theorem okP.mono {P Q:Int->Prop} (h:∀ n,P n->Q n):∀ {p:Pl},okP m P p->okP m Q p
 |.fin,_=>trivial
 |.tell a b ch,k=>⟨k.a0,k.a1,k.b0,k.b1,k.ne,k.l0,k.l1,k.rs,k.wd,λp hp=>h _ (k.nx p hp)⟩
def zBV (m:Int) (P:Int->Prop) (ds:List D):Prop:=∃ ps:List Pl,ds=ps.map plD/\∀ p∈ps,okP m P p/\p≠.fin
def pr (e h a b:Int):Nat:=if a=e/\b=h then 1 else 0
theorem zJ2 (e h a b:Int):pr e h a b<=1:=by unfold pr;split<;>omega
theorem zCP {e h a b a' b':Int} (n:a≠a'\/b≠b'):pr e h a b+pr e h a' b'<=1:=by unfold pr;split<;>split<;>omega
def zRw (e h:Int):D->Nat
 |.tup [_,.int a,.int b,.tup ch]=>ch.length*pr e h a b
 |_=>0
def zCk (e h:Int):List D->Nat
 | []=>0
 |d::ds=>zRw e h d+zCk e h ds
theorem zEM (e h:Int):∀ xs ys:List D,zCk e h (xs++ys)=zCk e h xs+zCk e h ys
 | [],_=>by simp [zCk]
 |x::xs,ys=>by simp only [List.cons_append,zCk,zEM e h xs ys];omega
theorem zBV.nil {P:Int->Prop}:zBV m P []:=⟨[],rfl,by simp⟩
theorem zBV.app {P:Int->Prop} (h:zBV m P xs) (k:zBV m P ys):zBV m P (xs++ys):=by
 obtain ⟨p,rfl,h⟩:=h
 obtain ⟨q,rfl,k⟩:=k
 refine ⟨p++q,by simp,λx hx=>?_⟩
 rcases List.mem_append.mp hx with hx|hx
 ·exact h x hx
 ·exact k x hx
theorem zBV.mono {P Q:Int->Prop} (h:zBV m P ds) (k:∀ n,P n->Q n):zBV m Q ds:=by
 obtain ⟨ps,e,h⟩:=h
 exact ⟨ps,e,λp hp=>⟨(h p hp).1.mono k,(h p hp).2⟩⟩
theorem zBV.cons {P:Int->Prop} (p:Pl) (hp:okP m P p) (h:zBV m P ds) (hf:p≠.fin:=by simp):zBV m P (plD p::ds):=by
 obtain ⟨ps,rfl,h⟩:=h
 exact ⟨p::ps,rfl,λq hq=>by
  rcases List.mem_cons.mp hq with rfl|hq
  ·exact ⟨hp,hf⟩
  ·exact h q hq⟩
theorem zBV.t1 {P:Int->Prop} (h1:0<=a/\a<m) (h2:0<=b/\b<m) (h3:a≠b) (hw:okW w) (hn:P n) (h:zBV m P ds) :
  zBV m P (.tup [.str "tell",.int a,.int b,.tup [.tup [.str w,.int n]]]::ds):=
 zBV.cons (.tell a b [(w,n)]) ⟨h1.1,h1.2,h2.1,h2.2,h3,by simp,by simp,by simp,by simpa using hw,by simpa using hn⟩ h
theorem zBz {l:List Str} (h:zAd l):l.Nodup:=h.imp Lt.ne
abbrev Shp:=Nat×Nat×List (Nat×Nat)
def zFV (a:Int) (g:List Int) (t:Nat):Int:=if t<20 then a+(t:Int) else g.getD (t-20) 0
def emb (a:Int) (g dl:List Int) (om:List Str) (s:Shp):Pl:=.tell (dl.getD s.1 0) (dl.getD s.2.1 0) (s.2.2.map λq=>(om.getD q.1 Str.empty,zFV a g q.2))
def sh (l:Bool) (n k:Nat):List Shp:=if l then (0,1,(List.range n).map λj=>(j,1+j*k))::(List.range n).flatMap λj=>(0,2,[(0,2+j*k)])::(List.range (k-1)).map λq=>(1,q+2,[(j,if q+2=k then 20+j else j*k+q+3)])
 else (0,1,(List.range n).map λj=>(j,if k=1 then 20+j else 1+j*(k-1)))::(List.range n).flatMap λj=>(List.range (k-1)).map λq=>(0,q+2,[(j,if q+2=k then 20+j else 1+j*(k-1)+q+1)])
structure ShD (m st:Int) (g:List Int) (ds:List D) (l:Bool) (n k:Nat) (dl:List Int) (om:List Str):Prop where
 n1:1<=n/\n<=3
 k1:1<=k/\k<=3
 lk:l=true->2<=k
 km:(k:Int)+1=m
 dn:dl.length=k+1
 dd:dl.Nodup
 dm:∀ o∈dl,0<=o/\o<m
 wn:om.length=n
 wd:om.Nodup
 eq:ds=((sh l n k).map (emb st g dl om)).map plD
theorem r2:List.range 2 = [0,1]:=rfl
theorem r3:List.range 3 = [0,1,2]:=rfl
theorem zFw {N:List Str} {F:ROo} {ds:List D} {d:D} (h:F (ds.map Sl.v++List.replicate (N.length-ds.length) .un)=some (.rt d)):zCg N F ds=some d:=by unfold zCg;rw [h];rfl
theorem zf {F G:ROo} {ρ ρ':Rho} (h:F ρ=some (.nx ρ')):sq F G ρ=G ρ':=by simp only [sq,h,Option.bind_some]
theorem zQ9 {F G:ROo} {ρ:Rho} {d:D} (h:F ρ=some (.rt d)):sq F G ρ=some (.rt d):=by simp only [sq,h,Option.bind_some]
def b2i (b:Bool):Int:=if b then 1 else 0
theorem at0 {α:Type} {a:α} {l:List α}:atI (a::l) 0=some a:=by simp [atI,ixN]
theorem at1 {α:Type} {a b:α} {l:List α}:atI (a::b::l) 1=some b:=by
 unfold atI ixN
 rw [if_pos (by decide),if_pos (by simp;omega)]
 rfl
theorem at2 {α:Type} {a b c:α} {l:List α}:atI (a::b::c::l) 2=some c:=by
 unfold atI ixN
 rw [if_pos (by decide),if_pos (by simp;omega)]
 rfl
theorem at3 {α:Type} {a b c d:α} {l:List α}:atI (a::b::c::d::l) 3=some d:=by
 unfold atI ixN
 rw [if_pos (by decide),if_pos (by simp;omega)]
 rfl
theorem zL2 {α:Type} (l:List α) (x:α):atI (l ++ [x]) (-1)=some x:=by
 unfold atI ixN
 rw [if_neg (by decide),if_pos (by simp;omega)]
 have e:(-1+(((l ++ [x]).length:Nat):Int)).toNat=l.length:=by simp;omega
 rw [Option.bind_some,e]
 simp
theorem zL3 {α:Type} {xs:List α} {i:Nat} {x:α} (h:xs[i]?=some x):atI xs (i:Int)=some x:=by
 have hl:=(List.getElem?_eq_some_iff.mp h).1
 unfold atI ixN
 rw [if_pos (by omega),if_pos (by omega),Option.bind_some]
 simpa using h
theorem zHU {n:Nat} (h:n<=1000000):RD.inR (n:Int)=true:=by
 simp [RD.inR];omega
theorem sFor_eq {f:ROl} {g:D->Rho->Option Rho} {B:ROo} {ρ:Rho} {ds:List D} (h:f ρ=some ds):zc f g B ρ=zb g B ds ρ:=by simp only [zc,h,Option.bind_some]
theorem zHV {f:ROl} {ρ:Rho} {n:Nat} (h:f ρ=some [.int (n:Int)]) (hn:n<=1000000):iR1 f ρ=some (rng 0 n):=by
 unfold iR1
 rw [h,Option.bind_some]
 exact (if_pos (zHU hn)).trans (by rw [Int.toNat_natCast])
theorem yw {i:Nat} {f:ROd} {ρ:Rho} {d:D} (h:f ρ=some d):qJ i f ρ=some (.nx (ρ.set i (.v d))):=by unfold qJ;rw [h,Option.map_some]
theorem zL4 {f:ROd} {ρ:Rho} {d:D} (h:f ρ=some d):zAV f ρ=some (.rt d):=by unfold zAV;rw [h,Option.map_some]
theorem zGV {A B:ROd} {op:D->D->Option D} {ρ:Rho} {a b:D} {r:Option D} (h1:A ρ=some a) (h2:B ρ=some b) (h:op a b=r):b2 A B op ρ=r:=by
 rw [<- h];simp only [b2,h1,h2,Option.bind_some]
theorem zN9 {A:ROd} {B:ROl} {ρ:Rho} {a:D} {bs:List D} (h:A ρ=some a) (k:B ρ=some bs):(zC A B) ρ=some (a::bs):=by unfold zC;rw [h,k];rfl
theorem zJH {m:Nat} {f:ROl} {g:D->Rho->Option Rho} {p:ROb} {e:ROd} {ρ:Rho} {ds ys:List D} (h1:f ρ=some ds) (h2:ds.length<=1000000) (h3:zM g p e ds (ρ++List.replicate m .un)=some ys):zK m f g p e ρ=some ys:=by unfold zK;rw [h1,Option.bind_some,if_pos h2,h3]
theorem zE3 {α:Type} {g:D->Rho->Option Rho} {f:ROd} {ρ:Rho} (emb out:α->D):∀ xs:List α,(∀ x∈xs,∃ ρ1,g (emb x) ρ=some ρ1/\f ρ1=some (out x))->zM g (λ_=>some true) f (xs.map emb) ρ=some (xs.map out)
 | [],_=>rfl
 |x::xs,h=>by
  obtain ⟨ρ1,e1,e2⟩:=h x List.mem_cons_self
  have ih:=zE3 emb out xs λy hy=>h y (List.mem_cons_of_mem _ hy)
  simp only [List.map_cons,zM,e1,Option.bind_some,if_true,e2,ih,Option.map_some]
theorem qZ {g:D->Rho->Option Rho} {F:ROo} {d:D} {ds:List D} {ρ ρ1 ρ':Rho} (h:g d ρ=some ρ1) (k:F ρ1=some (.nx ρ')):zb g F (d::ds) ρ=zb g F ds ρ':=by simp only [zb,h,k,Option.bind_some]
theorem zS1 (c:Int) {n:Nat} (hn:n<=3):∃ (W:Int->Str) (ws:List Str),(∀ j,zk [.int c,.int j]=some (.str (W j)))/\ws.length=n/\zAd ws/\(∀ w∈ws,okW w)/\zAq (.lst (((List.range n).map λ(k:Nat)=>W (0+(k:Int))).map D.str))=some (ws.map D.str):=by
 obtain ⟨W,hO,hW,n01,n02,n12⟩:=zN8 c
 refine ⟨W,zA8 ((List.range n).map λ(k:Nat)=>W (0+(k:Int))),hW,by rw [zC8];simp,zD2 ?_,λw hw=>?_,zHT (by simp;omega)⟩
 ·have:n=0\/n=1\/n=2\/n=3:=by omega
  rcases this with rfl|rfl|rfl|rfl<;>simp [r2,r3,n01,n02,n12]
 ·obtain ⟨k,_,rfl⟩:=List.mem_map.mp (zC7.mp hw)
  exact hO _
theorem zS2 (c:Int):∃ (W:Int->Str) (w0 w1:Str),(∀ j,zk [.int c,.int j]=some (.str (W j)))/\zAd [w0,w1]/\okW w0/\okW w1/\zAq (.lst [.str (W 0),.str (W 1)])=some [.str w0,.str w1]:=by
 obtain ⟨W,ws,hW,l,rs,ok,so⟩:=zS1 c (n:=2) (by decide)
 obtain ⟨w0,w1,rfl⟩:=zPE l
 exact ⟨W,w0,w1,hW,rs,ok w0 (by simp),ok w1 (by simp),by simpa [r2] using so⟩
theorem wds_n (c:Int):∃ ws:List Str,(ws.length:Int)=1+mix c 9949 3/\zAd ws/\(∀ w∈ws,okW w)/\∀ a1 a2 a3 a4 a5 d,yX [.v (.int c),a1,a2,a3,a4,a5,.v (.lst (ws.map D.str)),.un,.un,.un,.un,.un,.un]=some (.rt d)->zAa [.v (.int c),a1,a2,a3,a4,a5,.un,.un,.un,.un,.un,.un,.un]=some (.rt d):=by
 have h0:=qE c 9949 (m:=3) (by decide)
 have h1:=qF c 9949 (m:=3) (by decide)
 obtain ⟨n,hn⟩:∃ n:Nat,1+mix c 9949 3=(n:Int):=⟨(1+mix c 9949 3).toNat,by omega⟩
 obtain ⟨W,ws,hW,l,rs,ok,so⟩:=zS1 c (n:=n) (by omega)
 refine ⟨ws,by omega,rs,ok,λa1 a2 a3 a4 a5 d z=>(zf (yw (d:=.lst (ws.map D.str)) ?_)).trans z⟩
 have k:zQ [.int c,.int 9949,.int 3]=some (.int (mix c 9949 3)):=zBm (by decide) (by decide)
 have e:=zE3 (g:=gN 13) (f:=λρ=>((zC (gV 0) (zC (gV 13) zP)) ρ).bind zk) (ρ:=[.v (.int c),a1,a2,a3,a4,a5,.un,.un,.un,.un,.un,.un,.un,.un]) (λ(i:Nat)=>D.int (0+(i:Int))) (λi=>D.str (W (0+(i:Int)))) (List.range n) λi _=>⟨_,rfl,hW _⟩
 have q:zK 1 (iR1 (zC (b2 (zN 1) (λρ=>((zC (gV 0) (zC (zN 9949) (zC (zN 3) zP))) ρ).bind zQ) qT) zP)) (gN 13) (λ_=>some true) (λρ=>((zC (gV 0) (zC (gV 13) zP)) ρ).bind zk) [.v (.int c),a1,a2,a3,a4,a5,.un,.un,.un,.un,.un,.un,.un]=_:=zJH (zHV (n:=n) (zN9 (zGV (a:=.int 1) rfl k (congrArg (λx=>some (D.int x)) hn)) rfl) (by omega)) (by simp [rng];omega) e
 refine (congrArg (λo=>Option.map D.lst (Option.bind (Option.map D.lst o) zAq)) q).trans ?_
 rw [List.map_map] at so
 rw [Option.map_some,Option.bind_some]
 exact congrArg (Option.map D.lst) so
theorem md {m one r:Int} (hm:m=2\/m=3\/m=4) (a0:0<=one) (a1:one<m) (b0:0<=r) (b1:r<m-1):0<=(one+1+r)%m/\(one+1+r)%m<m/\one≠(one+1+r)%m:=
 ⟨Int.emod_nonneg _ (by omega),Int.emod_lt_of_pos _ (by omega),by rcases hm with rfl|rfl|rfl<;>omega⟩
theorem on_n (c m:Int) (hm:m=2\/m=3\/m=4):∃ (one:Int) (os:List Int),(0<=one/\one<m)/\(os.length:Int)=m-1/\os.Nodup/\(∀ o∈os,0<=o/\o<m/\one≠o)/\∀ st gs d,zAa [.v (.int c),.v st,.v (.int m),.v gs,.v (.int one),.v (.lst (os.map D.int)),.un,.un,.un,.un,.un,.un,.un]=some (.rt d)->qW [.int c,st,.int m,gs]=some d:=by
 have m0:0<m:=by omega
 have m1:0<m-1:=by omega
 have a0:=qE c 9929 m0
 have a1:=qF c 9929 m0
 have b0:=qE c 9901 m1
 have b1:=qF c 9901 m1
 have k1:=zBm (c:=c) (p:=9929) (by decide) m0
 have k2:=zBm (c:=c) (p:=9901) (by decide) m1
 generalize mix c 9929 m=one at a0 a1 k1
 generalize mix c 9901 (m-1)=r at b0 b1 k2
 refine ⟨one,(List.range (m-1).toNat).map λ(k:Nat)=>(one+1+(0+(k:Int)+r)%(m-1))%m,⟨a0,a1⟩,by simp;omega,?_,?_,λst gs d z=>zFw ((zf (yw k1)).trans ((zf (yw (d:=.lst (((List.range (m-1).toNat).map λ(k:Nat)=>(one+1+(0+(k:Int)+r)%(m-1))%m).map D.int)) ?_)).trans z))⟩
 ·obtain ⟨x,rfl⟩:=Int.eq_ofNat_of_zero_le a0
  obtain ⟨y,rfl⟩:=Int.eq_ofNat_of_zero_le b0
  have z:∀ n:Nat,n<5->∀ x:Nat,x<n->∀ y:Nat,y<n-1->((List.range ((n:Int)-1).toNat).map λ(k:Nat)=>((x:Int)+1+(0+(k:Int)+(y:Int))%((n:Int)-1))%(n:Int)).Nodup:=by decide +kernel
  rcases hm with rfl|rfl|rfl
  ·exact z 2 (by decide) x (Int.ofNat_lt.mp a1) y (Int.ofNat_lt.mp b1)
  ·exact z 3 (by decide) x (Int.ofNat_lt.mp a1) y (Int.ofNat_lt.mp b1)
  ·exact z 4 (by decide) x (Int.ofNat_lt.mp a1) y (Int.ofNat_lt.mp b1)
 ·intro o ho
  obtain ⟨k,hk,rfl⟩:=List.mem_map.mp ho
  exact md hm a0 a1 (Int.emod_nonneg _ (by omega)) (Int.emod_lt_of_pos _ m1)
 ·have e:=zE3 (g:=gN 13) (f:=b2 (b2 (b2 (gR 4) (zN 1) qT) (b2 (b2 (gR 13) (λρ=>((zC (gV 0) (zC (zN 9901) (zC (b2 (gR 2) (zN 1) zH6) zP))) ρ).bind zQ) qT) (b2 (gR 2) (zN 1) zH6) zFk) qT) (gR 2) zFk) (ρ:=[.v (.int c),.v st,.v (.int m),.v gs,.v (.int one),.un,.un,.un,.un,.un,.un,.un,.un,.un]) (λ(i:Nat)=>D.int (0+(i:Int))) (λk=>D.int ((one+1+(0+(k:Int)+r)%(m-1))%m)) (List.range (m-1).toNat) λi _=>⟨_,rfl,by exists 0,k2,m0,m1,atI,ixN,ixO⟩
  rw [List.map_map]
  exact congrArg (Option.map D.lst) (zJH (zHV (n:=(m-1).toNat) (congrArg (λx=>some [D.int x]) (show m-1=(((m-1).toNat:Nat):Int) by omega)) (by omega)) (by simp [rng];omega) e)
def tl (a b:Int) (l:List (Str×Int)):D:=plD (.tell a b l)
theorem zJI {e h a b:Int} {l:List (Str×Int)}:zRw e h (tl a b l)=l.length*pr e h a b:=by
 show (l.map chD).length*_=_
 rw [List.length_map]
theorem zRA {e h a x y z:Int} (h1:x≠y) (h2:x≠z) (h3:y≠z):pr e h a x+pr e h a y+pr e h a z<=1:=by
 have:=@zCP e h a x a y (.inr h1)
 have:=@zCP e h a x a z (.inr h2)
 have:=@zCP e h a y a z (.inr h3)
 omega
theorem zPF {e h a x y:Int} (n1:a≠x) (n3:x≠y):pr e h a x+pr e h a y+pr e h x y<=1:=by
 have:=@zCP e h a x a y (.inr n3)
 have:=@zCP e h a x x y (.inl n1)
 have:=@zCP e h a y x y (.inl n1)
 omega
theorem zS3 {e h a x y z:Int} (n1:a≠x) (n3:x≠y) (n5:y≠z):pr e h a x+pr e h a y+pr e h x y+pr e h x z<=1:=by
 have:=@zPF e h a x y n1 n3
 have:=@zCP e h a x x z (.inl n1)
 have:=@zCP e h a y x z (.inl n1)
 have:=@zCP e h x y x z (.inr n5)
 omega
theorem zBV.tW {m:Int} {P:Int->Prop} {ds:List D} {a b:Int} {l:List (Str×Int)} (h1:0<=a/\a<m) (h2:0<=b/\b<m) (h3:a≠b) (hl:Nat.ble 1 l.length=true/\Nat.ble l.length 3=true) (hr:zAd (l.map (·.1))) (hw:∀ w∈l.map (·.1),okW w) (hn:∀ n∈l.map (·.2),P n) (h:zBV m P ds):zBV m P (tl a b l::ds):=
 zBV.cons (.tell a b l) ⟨h1.1,h1.2,h2.1,h2.2,h3,Nat.le_of_ble_eq_true hl.1,Nat.le_of_ble_eq_true hl.2,hr,λ_ k=>hw _ (List.mem_map_of_mem k),λ_ k=>hn _ (List.mem_map_of_mem k)⟩ h
theorem zL5 {e h a b:Int} {l:List (Str×Int)} (k:Nat.ble l.length 2=true):zCk e h [tl a b l]<=2:=by
 rw [zCk,zJI]
 exact Nat.mul_le_mul (Nat.le_of_ble_eq_true k) (zJ2 e h a b)
theorem i2 {s a b L:Int} {P:Prop} (h:0<a+b/\a+b<L):(s<s+a+b/\s+a+b<s+L)\/P:=.inl (by omega)
theorem i3 {s a b c L:Int} {P:Prop} (h:0<a+b+c/\a+b+c<L):(s<s+a+b+c/\s+a+b+c<s+L)\/P:=.inl (by omega)
theorem i4 {s a b c d L:Int} {P:Prop} (h:0<a+b+c+d/\a+b+c+d<L):(s<s+a+b+c+d/\s+a+b+c+d<s+L)\/P:=.inl (by omega)
theorem nlate {c m:Int} {a1 a3 a4 a5 a6:Sl} {d:D} (hl:zKN c m=false) (z:zAZ [.v (.int c),a1,.v (.int m),a3,a4,a5,a6,.un,.un,.un,.un,.un,.un]=some (.rt d)):yX [.v (.int c),a1,.v (.int m),a3,a4,a5,a6,.un,.un,.un,.un,.un,.un]=some (.rt d):=by
 unfold yX
 refine (zf ?_).trans z
 exists 0,Int.natCast_one,r2,r3,List.range_one,Int.toNat_one,List.set,zLy,hl,atI,ixN,ixO
theorem ltrue {c m:Int} {a1 a3 a4 a5 a6 d:D} (hl:zKN c m=true) (e:yv [a1,a3,a4,a5,a6]=some d):yX [.v (.int c),.v a1,.v (.int m),.v a3,.v a4,.v a5,.v a6,.un,.un,.un,.un,.un,.un]=some (.rt d):=by
 unfold yX
 refine zQ9 ?_
 exists 0,Int.natCast_one,r2,r3,List.range_one,Int.toNat_one,List.set,zLy,hl,e,atI,ixN,ixO
theorem sp3 {a b c:Prop} (h:a/\b/\c):(a/\b)/\c:=⟨⟨h.1,h.2.1⟩,h.2.2⟩
def TG (m st g0 g1 g2:Int) (ds:List D):Prop:=zBV m (λn=>(st<n/\n<st+(ds.length:Int))\/n=g0\/n=g1\/n=g2) ds/\∀ e h,zCk e h ds<=3
theorem zRB {st g0 g1 g2 one m:Int} {os:List Int} {ws:List Str} (rs:zAd ws) (okw:∀ w∈ws,okW w) (h1:0<=one/\one<m) (nd:os.Nodup) (hos:∀ o∈os,0<=o/\o<m/\one≠o) (lo:os.length=2\/os.length=3) (lw:ws.length=1\/ws.length=2\/ws.length=3) :
  ∃ ds,yv [.int st,.lst [.int g0,.int g1,.int g2],.int one,.lst (os.map D.int),.lst (ws.map D.str)]=some (.lst ds)/\(ds.length:Int)=1+(ws.length:Int)*(os.length:Int)/\TG m st g0 g1 g2 ds/\ds=((sh true ws.length os.length).map (emb st [g0,g1,g2] (one::os) ws)).map plD:=by
 rcases lo with lo|lo
 case' inl=>
  obtain ⟨o0,o1,rfl⟩:=zPE lo
  obtain ⟨q0,n0⟩:=sp3 (hos o0 (by simp))
  obtain ⟨q1,n1⟩:=sp3 (hos o1 (by simp))
  have d0:o0≠o1:=by simpa using nd
 case' inr=>
  obtain ⟨o0,o1,o2,rfl⟩:=zQ8 lo
  obtain ⟨q0,n0⟩:=sp3 (hos o0 (by simp))
  obtain ⟨q1,n1⟩:=sp3 (hos o1 (by simp))
  obtain ⟨q2,n2⟩:=sp3 (hos o2 (by simp))
  obtain ⟨⟨d0,d1⟩,d2⟩:(o0≠o1/\o0≠o2)/\o1≠o2:=by simpa using nd
 all_goals rcases lw with lw|lw|lw
 case' inl.inl=>
  obtain ⟨w0,rfl⟩:=zRv lw
  refine ⟨[tl one o0 [(w0,st+1+0)],tl one o1 [(w0,st+1+0+1)],tl o0 o1 [(w0,g0)]],by kernel_rfl,rfl,⟨?_,λe h=>?_⟩,by first|rfl|(simp only [Int.add_assoc];rfl)⟩
 case' inl.inr.inl=>
  obtain ⟨w0,w1,rfl⟩:=zPE lw
  refine ⟨[tl one o0 [(w0,st+1+0),(w1,st+1+2)],tl one o1 [(w0,st+1+0+1)],tl o0 o1 [(w0,g0)],tl one o1 [(w0,st+1+2+1)],tl o0 o1 [(w1,g1)]],by kernel_rfl,rfl,⟨?_,λe h=>?_⟩,by first|rfl|(simp only [Int.add_assoc];rfl)⟩
 case' inl.inr.inr=>
  obtain ⟨w0,w1,w2,rfl⟩:=zQ8 lw
  refine ⟨[tl one o0 [(w0,st+1+0),(w1,st+1+2),(w2,st+1+4)],tl one o1 [(w0,st+1+0+1)],tl o0 o1 [(w0,g0)],tl one o1 [(w0,st+1+2+1)],tl o0 o1 [(w1,g1)],tl one o1 [(w0,st+1+4+1)],tl o0 o1 [(w2,g2)]],by kernel_rfl,rfl,⟨?_,λe h=>?_⟩,by first|rfl|(simp only [Int.add_assoc];rfl)⟩
 case' inr.inl=>
  obtain ⟨w0,rfl⟩:=zRv lw
  refine ⟨[tl one o0 [(w0,st+1+0)],tl one o1 [(w0,st+1+0+1)],tl o0 o1 [(w0,st+1+0+1+1)],tl o0 o2 [(w0,g0)]],by kernel_rfl,rfl,⟨?_,λe h=>?_⟩,by first|rfl|(simp only [Int.add_assoc];rfl)⟩
 case' inr.inr.inl=>
  obtain ⟨w0,w1,rfl⟩:=zPE lw
  refine ⟨[tl one o0 [(w0,st+1+0),(w1,st+1+3)],tl one o1 [(w0,st+1+0+1)],tl o0 o1 [(w0,st+1+0+1+1)],tl o0 o2 [(w0,g0)],tl one o1 [(w0,st+1+3+1)],tl o0 o1 [(w1,st+1+3+1+1)],tl o0 o2 [(w1,g1)]],by kernel_rfl,rfl,⟨?_,λe h=>?_⟩,by first|rfl|(simp only [Int.add_assoc];rfl)⟩
 case' inr.inr.inr=>
  obtain ⟨w0,w1,w2,rfl⟩:=zQ8 lw
  refine ⟨[tl one o0 [(w0,st+1+0),(w1,st+1+3),(w2,st+1+6)],tl one o1 [(w0,st+1+0+1)],tl o0 o1 [(w0,st+1+0+1+1)],tl o0 o2 [(w0,g0)],tl one o1 [(w0,st+1+3+1)],tl o0 o1 [(w1,st+1+3+1+1)],tl o0 o2 [(w1,g1)],tl one o1 [(w0,st+1+6+1)],tl o0 o1 [(w2,st+1+6+1+1)],tl o0 o2 [(w2,g2)]],by kernel_rfl,rfl,⟨?_,λe h=>?_⟩,by first|rfl|(simp only [Int.add_assoc];rfl)⟩
 all_goals simp only [List.length_cons,List.length_nil,zCk,zJI]
 all_goals first|(have:=@zPF e h _ _ _ n0 d0;omega)|(have:=@zS3 e h _ _ _ _ n0 d0 d2;omega)|(repeat first|exact zBV.nil|refine zBV.tW (by assumption) (by assumption) (by assumption) ⟨rfl,rfl⟩ rs okw ?_ ?_|refine zBV.t1 (by assumption) (by assumption) (by assumption) (okw _ (by repeat constructor)) ?_ ?_|exact List.forall_mem_nil _|refine List.forall_mem_cons.mpr ⟨?_,?_⟩|exact .inr (.inl rfl)|exact .inr (.inr (.inl rfl))|exact .inr (.inr (.inr rfl))|exact i2 (by decide)|exact i3 (by decide)|exact i4 (by decide))
theorem zOA {c st g0 g1 g2 one m:Int} {os:List Int} {ws:List Str} (rs:zAd ws) (okw:∀ w∈ws,okW w) (h1:0<=one/\one<m) (nd:os.Nodup) (hos:∀ o∈os,0<=o/\o<m/\one≠o) (lo:(os.length:Int)=m-1) (hm:m=2\/m=3\/m=4) (lw:ws.length=1\/ws.length=2\/ws.length=3) :
  ∃ ds,zAZ [.v (.int c),.v (.int st),.v (.int m),.v (.lst [.int g0,.int g1,.int g2]),.v (.int one),.v (.lst (os.map D.int)),.v (.lst (ws.map D.str)),.un,.un,.un,.un,.un,.un]=some (.rt (.lst ds))/\(ds.length:Int)=1+(ws.length:Int)*(m-2)/\TG m st g0 g1 g2 ds/\ds=((sh false ws.length os.length).map (emb st [g0,g1,g2] (one::os) ws)).map plD:=by
 rcases hm with rfl|rfl|rfl
 case' inl=>
  obtain ⟨o0,rfl⟩:=zRv (l:=os) (by omega)
  obtain ⟨q0,n0⟩:=sp3 (hos o0 (by simp))
 case' inr.inl=>
  obtain ⟨o0,o1,rfl⟩:=zPE (l:=os) (by omega)
  obtain ⟨q0,n0⟩:=sp3 (hos o0 (by simp))
  obtain ⟨q1,n1⟩:=sp3 (hos o1 (by simp))
  have d0:o0≠o1:=by simpa using nd
 case' inr.inr=>
  obtain ⟨o0,o1,o2,rfl⟩:=zQ8 (l:=os) (by omega)
  obtain ⟨q0,n0⟩:=sp3 (hos o0 (by simp))
  obtain ⟨q1,n1⟩:=sp3 (hos o1 (by simp))
  obtain ⟨q2,n2⟩:=sp3 (hos o2 (by simp))
  obtain ⟨⟨d0,d1⟩,d2⟩:(o0≠o1/\o0≠o2)/\o1≠o2:=by simpa using nd
 all_goals rcases lw with lw|lw|lw
 case' inl.inl=>
  obtain ⟨w0,rfl⟩:=zRv lw
  refine ⟨[tl one o0 [(w0,g0)]],by kernel_rfl,rfl,⟨?_,λe h=>?_⟩,by first|rfl|(simp only [Int.add_assoc];rfl)⟩
 case' inl.inr.inl=>
  obtain ⟨w0,w1,rfl⟩:=zPE lw
  refine ⟨[tl one o0 [(w0,g0),(w1,g1)]],by kernel_rfl,rfl,⟨?_,λe h=>?_⟩,by first|rfl|(simp only [Int.add_assoc];rfl)⟩
 case' inl.inr.inr=>
  obtain ⟨w0,w1,w2,rfl⟩:=zQ8 lw
  refine ⟨[tl one o0 [(w0,g0),(w1,g1),(w2,g2)]],by kernel_rfl,rfl,⟨?_,λe h=>?_⟩,by first|rfl|(simp only [Int.add_assoc];rfl)⟩
 case' inr.inl.inl=>
  obtain ⟨w0,rfl⟩:=zRv lw
  refine ⟨[tl one o0 [(w0,st+1+0+0)],tl one o1 [(w0,g0)]],by kernel_rfl,rfl,⟨?_,λe h=>?_⟩,by first|rfl|(simp only [Int.add_assoc];rfl)⟩
 case' inr.inl.inr.inl=>
  obtain ⟨w0,w1,rfl⟩:=zPE lw
  refine ⟨[tl one o0 [(w0,st+1+0+0),(w1,st+1+1+0)],tl one o1 [(w0,g0)],tl one o1 [(w1,g1)]],by kernel_rfl,rfl,⟨?_,λe h=>?_⟩,by first|rfl|(simp only [Int.add_assoc];rfl)⟩
 case' inr.inl.inr.inr=>
  obtain ⟨w0,w1,w2,rfl⟩:=zQ8 lw
  refine ⟨[tl one o0 [(w0,st+1+0+0),(w1,st+1+1+0),(w2,st+1+2+0)],tl one o1 [(w0,g0)],tl one o1 [(w1,g1)],tl one o1 [(w2,g2)]],by kernel_rfl,rfl,⟨?_,λe h=>?_⟩,by first|rfl|(simp only [Int.add_assoc];rfl)⟩
 case' inr.inr.inl=>
  obtain ⟨w0,rfl⟩:=zRv lw
  refine ⟨[tl one o0 [(w0,st+1+0+0)],tl one o1 [(w0,st+1+0+1)],tl one o2 [(w0,g0)]],by kernel_rfl,rfl,⟨?_,λe h=>?_⟩,by first|rfl|(simp only [Int.add_assoc];rfl)⟩
 case' inr.inr.inr.inl=>
  obtain ⟨w0,w1,rfl⟩:=zPE lw
  refine ⟨[tl one o0 [(w0,st+1+0+0),(w1,st+1+2+0)],tl one o1 [(w0,st+1+0+1)],tl one o2 [(w0,g0)],tl one o1 [(w1,st+1+2+1)],tl one o2 [(w1,g1)]],by kernel_rfl,rfl,⟨?_,λe h=>?_⟩,by first|rfl|(simp only [Int.add_assoc];rfl)⟩
 case' inr.inr.inr.inr=>
  obtain ⟨w0,w1,w2,rfl⟩:=zQ8 lw
  refine ⟨[tl one o0 [(w0,st+1+0+0),(w1,st+1+2+0),(w2,st+1+4+0)],tl one o1 [(w0,st+1+0+1)],tl one o2 [(w0,g0)],tl one o1 [(w1,st+1+2+1)],tl one o2 [(w1,g1)],tl one o1 [(w2,st+1+4+1)],tl one o2 [(w2,g2)]],by kernel_rfl,rfl,⟨?_,λe h=>?_⟩,by first|rfl|(simp only [Int.add_assoc];rfl)⟩
 all_goals simp only [List.length_cons,List.length_nil,zCk,zJI]
 all_goals first|(have:=zJ2 e h one o0;omega)|(have:=@zCP e h one o0 one o1 (.inr d0);omega)|(have:=@zRA e h one o0 o1 o2 d0 d1 d2;omega)|(repeat first|exact zBV.nil|refine zBV.tW (by assumption) (by assumption) (by assumption) ⟨rfl,rfl⟩ rs okw ?_ ?_|refine zBV.t1 (by assumption) (by assumption) (by assumption) (okw _ (by repeat constructor)) ?_ ?_|exact List.forall_mem_nil _|refine List.forall_mem_cons.mpr ⟨?_,?_⟩|exact .inr (.inl rfl)|exact .inr (.inr (.inl rfl))|exact .inr (.inr (.inr rfl))|exact i2 (by decide)|exact i3 (by decide)|exact i4 (by decide))
theorem zIJ (c st g0 g1 g2 m:Int) (hm:m=2\/m=3\/m=4) :
  ∃ ds,qW [.int c,.int st,.int m,.lst [.int g0,.int g1,.int g2]]=some (.lst ds)/\(ds.length:Int)=1+(1+mix c 9949 3)*(m-2+b2i (zKN c m))/\TG m st g0 g1 g2 ds/\∃ l n k dl om,ShD m st [g0,g1,g2] ds l n k dl om:=by
 have x0:=qE c 9949 (m:=3) (by decide)
 have x1:=qF c 9949 (m:=3) (by decide)
 obtain ⟨one,os,h1,ho,nd,hos,run⟩:=on_n c m hm
 obtain ⟨ws,lw,rs,okw,wd⟩:=wds_n c
 have l3:ws.length=1\/ws.length=2\/ws.length=3:=by omega
 rw [<- lw]
 have sd:∀ (ds:List D) (l:Bool),(l=true->2<=os.length)->ds=((sh l ws.length os.length).map (emb st [g0,g1,g2] (one::os) ws)).map plD->∃ l n k dl om,ShD m st [g0,g1,g2] ds l n k dl om:=λds l hl e=>
  ⟨l,ws.length,os.length,one::os,ws,by omega,by omega,hl,by omega,rfl,List.nodup_cons.mpr ⟨λz=>(hos one z).2.2 rfl,nd⟩,λo ho=>(List.mem_cons.mp ho).elim (λz=>z ▸ h1) λz=>⟨(hos o z).1,(hos o z).2.1⟩,rfl,zBz rs,e⟩
 cases hl:zKN c m with
 |false=>
  obtain ⟨ds,e,l,g,q⟩:=zOA (c:=c) (st:=st) (g0:=g0) (g1:=g1) (g2:=g2) rs okw h1 nd hos ho hm l3
  exact ⟨ds,run _ _ _ (wd _ _ _ _ _ _ (nlate hl e)),by rw [l];simp [b2i],g,sd ds false (by simp) q⟩
 |true=>
  have m3:2<m:=by simp [zKN] at hl;exact hl.2
  obtain ⟨ds,e,l,g,q⟩:=zRB (st:=st) (g0:=g0) (g1:=g1) (g2:=g2) rs okw h1 nd hos (by omega) l3
  exact ⟨ds,run _ _ _ (wd _ _ _ _ _ _ (ltrue hl e)),by rw [l,show m-2+b2i true=(os.length:Int) by simp [b2i];omega],g,sd ds true (by omega) q⟩
def zAo (c m:Int):Int:=1+(1+mix c 9949 3)*(m-2+b2i (zKN c m))+b2i (decide (0<mix c 9931 3))
theorem zS4 {c m:Int} (hm:m=2\/m=3\/m=4):zBC [.int c,.int m]=some (.int (zAo c m)):=by
 have h1:=qE c 9949 (m:=3) (by decide)
 have h2:=qF c 9949 (m:=3) (by decide)
 have h3 : -18446744073709551616<1+mix c 9949 3:=by omega
 have h4:1+mix c 9949 3<18446744073709551616:=by omega
 exists 0,zBC,zDi,zLy,zBm,zAo,b2i,h3,h4,decide_eq_true_eq,atI,ixN,ixO
def TwD (here goal:Int) (d:D):Prop:=∃ (e f:Int) (ch:List (Str×Int)),d=plD (.tell e f ch)/\(ch.map (·.1)).Nodup/\(∀ q∈ch,q.2=here\/q.2=goal)/\∃ w,(w,goal)∈ch
theorem zS5 (c here goal m:Int) (hm:m=2\/m=3\/m=4):∃ d,yY [.int c,.int here,.int m,.int goal]=some d/\zBV m (λn=>n=here\/n=goal) [d]/\(∀ e h,zCk e h [d]<=2)/\TwD here goal d:=by
 obtain ⟨W,w0,w1,hW,hsr,hw0,hw1,hs⟩:=zS2 (c+1)
 have m0:0<m:=by omega
 have m1:0<m-1:=by omega
 have a0:=qE c 9871 m0
 have a1:=qF c 9871 m0
 have b0:=qE c 9859 m1
 have b1:=qF c 9859 m1
 generalize ho:mix c 9871 m=one at a0 a1
 generalize hr:mix c 9859 (m-1)=r at b0 b1
 obtain ⟨q0,n0⟩:=sp3 (md hm a0 a1 b0 b1)
 have cp:c%2=0\/c%2=1:=by omega
 by_cases e:mix c 9931 3=1
 ·refine ⟨tl one ((one+1+r)%m) [(w0,goal)],?_,zBV.tW ⟨a0,a1⟩ q0 n0 ⟨rfl,rfl⟩ (by simp) (List.forall_mem_cons.mpr ⟨hw0,List.forall_mem_nil _⟩) (List.forall_mem_cons.mpr ⟨.inr rfl,List.forall_mem_nil _⟩) zBV.nil,λe h=>zL5 rfl,_,_,_,rfl,by simp,by simp,w0,by simp⟩
  exists 0,yY,qX,zBm,m0,m1,hW,hs,ho,hr,e,beq_iff_eq,beq_self_eq_true,atI,ixN,ixO
  rfl
 ·have ok:∀ w∈[w0,w1],okW w:=List.forall_mem_cons.mpr ⟨hw0,List.forall_mem_cons.mpr ⟨hw1,List.forall_mem_nil _⟩⟩
  rcases cp with cp|cp
  case' inl=>refine ⟨tl one ((one+1+r)%m) [(w0,here),(w1,goal)],?_,zBV.tW ⟨a0,a1⟩ q0 n0 ⟨rfl,rfl⟩ hsr ok (List.forall_mem_cons.mpr ⟨.inl rfl,List.forall_mem_cons.mpr ⟨.inr rfl,List.forall_mem_nil _⟩⟩) zBV.nil,λe h=>zL5 rfl,_,_,_,rfl,zBz hsr,by simp,w1,by simp⟩
  case' inr=>refine ⟨tl one ((one+1+r)%m) [(w0,goal),(w1,here)],?_,zBV.tW ⟨a0,a1⟩ q0 n0 ⟨rfl,rfl⟩ hsr ok (List.forall_mem_cons.mpr ⟨.inr rfl,List.forall_mem_cons.mpr ⟨.inl rfl,List.forall_mem_nil _⟩⟩) zBV.nil,λe h=>zL5 rfl,_,_,_,rfl,zBz hsr,by simp,w0,by simp⟩
  all_goals
   exists 0,yY,qX,zBm,m0,m1,hW,hs,ho,hr,beq_iff_eq,beq_self_eq_true,cp,(beq_eq_false_iff_ne.mpr e),atI,ixN,ixO
   rfl
theorem ix30:ixN 3 0=some 0:=rfl
theorem zRC {S:List Int} {T x:Int} (hS:∀ x∈S,0<=x/\x<=T) (hl:1<=S.length):∃ g,atI (S.map D.int) (mix x 9907 (S.length:Int))=some (.int g)/\g∈S/\0<=g/\g<=T:=by
 have hn:(0:Int)<(S.length:Int):=by omega
 have a0:=qE x 9907 hn
 have a1:=qF x 9907 hn
 obtain ⟨i,hi⟩:∃ i:Nat,mix x 9907 (S.length:Int)=(i:Int):=⟨(mix x 9907 (S.length:Int)).toNat,by omega⟩
 rw [hi] at a1 ⊢
 have hlt:i<S.length:=by omega
 exact ⟨S[i],zL3 (by simp [hlt]),List.getElem_mem _,hS _ (List.getElem_mem _)⟩
theorem zGW {c m:Int} {n:Nat} (hm:m=2\/m=3\/m=4) (h:(n:Int)=1+(1+mix c 9949 3)*(m-2+b2i (zKN c m))):1<=(n:Int)/\(n:Int)<=10/\zAo c m=(n:Int)+b2i (decide (0<mix c 9931 3)):=by
 have h1:=qE c 9949 (m:=3) (by decide)
 have h2:=qF c 9949 (m:=3) (by decide)
 refine ⟨?_,?_,by rw [h];rfl⟩
 all_goals
  rw [h]
  have cs:=zQ3 h1 h2
  have bs:b2i (zKN c m)=0\/b2i (zKN c m)=1:=by unfold b2i;split<;>simp
  rcases hm with rfl|rfl|rfl<;>rcases cs with e|e|e<;>rcases bs with e' | e'<;>rw [e,e']<;>decide
theorem zIK {c m:Int} (hm:m=2\/m=3\/m=4):1<=zAo c m/\zAo c m<=11:=by
 obtain ⟨ds,_,l,_⟩:=zIJ c 0 0 0 0 m hm
 obtain ⟨a,b,e⟩:=zGW hm l
 have:b2i (decide (0<mix c 9931 3))=0\/b2i (decide (0<mix c 9931 3))=1:=by unfold b2i;split<;>simp
 omega
theorem inT {T a L g0 g1 g2 n:Int} (a0:0<=a) (l:a+L<=T+1) (u0:0<=g0/\g0<=T) (u1:0<=g1/\g1<=T) (u2:0<=g2/\g2<=T) (h:(a<n/\n<a+L)\/n=g0\/n=g1\/n=g2):0<=n/\n<T+1:=by
 rcases h with h|rfl|rfl|rfl
 ·exact ⟨Int.le_trans a0 (Int.le_of_lt h.1),Int.lt_of_lt_of_le h.2 l⟩
 ·exact ⟨u0.1,Int.lt_add_one_of_le u0.2⟩
 ·exact ⟨u1.1,Int.lt_add_one_of_le u1.2⟩
 ·exact ⟨u2.1,Int.lt_add_one_of_le u2.2⟩
def RdI (m:Int) (S:List Int) (a:Int) (es:List D):Prop:=∃ xs g l n k dl om,ShD m a g xs l n k dl om/\g.length=3/\(∀ y∈g.tail,y∈S)/\((es=xs/\∀ y∈g,y∈S)\/∃ d z,es=xs ++ [d]/\g.head?=some (a+(xs.length:Int))/\z∈S/\TwD (a+(xs.length:Int)) z d)
theorem zOB {m:Int} (hm:m=2\/m=3\/m=4) {S:List Int} {T:Int} (hS:∀ x∈S,0<=x/\x<=T) (hl:1<=S.length) {k:Nat} {a c:Int} (h1:S[k]?=some a) (h2:S[k+1]?=some (a+zAo c m)) {ds:List D} (hd:ds.length<=100) (s0 s2 s7 s8:Sl) :
  ∃ es s7' s8',qY [s0,.v (.int m),s2,.l (S.map D.int),.v (.int c),.l ds,.v (.int k),s7,s8]=some (.nx [s0,.v (.int m),s2,.l (S.map D.int),.v (.int c),.l (ds++es),.v (.int k),s7',s8']) /\
   (es.length:Int)=zAo c m/\zBV m (λn=>0<=n/\n<T+1) es/\(∀ e h,zCk e h es<=5)/\RdI m S a es:=by
 have hn:(0:Int)<(S.length:Int):=by omega
 have ha:=hS a (List.mem_of_getElem? h1)
 have hb:=hS _ (List.mem_of_getElem? h2)
 obtain ⟨g0,p0,s0',u0⟩:=zRC (x:=c+0) hS hl
 obtain ⟨g1,p1,s1',u1⟩:=zRC (x:=c+7) hS hl
 obtain ⟨g2,p2,s2',u2⟩:=zRC (x:=c+14) hS hl
 have q1:atI (S.map D.int) (k:Int)=some (.int a):=zL3 (by simp [h1])
 have q2:atI (S.map D.int) ((k:Int)+1)=some (.int (a+zAo c m)):=zL3 (i:=k+1) (by simp [h2])
 by_cases t:0<mix c 9931 3
 ·obtain ⟨es,e1,l1,⟨G1,C1⟩,l',n',k',dl,om,sd⟩:=zIJ c a (a+zAo c m-1) g1 g2 m hm
  obtain ⟨x,e2,G2,C2,tw⟩:=zS5 c (a+zAo c m-1) g0 m hm
  obtain ⟨y0,y1,y2⟩:=zGW hm l1
  rw [show b2i (decide (0<mix c 9931 3))=1 by simp [b2i,t]] at y2
  have z0:es.length<=10:=by omega
  have z1:ds.length+es.length<=1000000:=Nat.le_trans (Nat.add_le_add hd z0) (by decide)
  have z2:ds.length+es.length<16000000:=Nat.lt_of_le_of_lt z1 (by decide)
  refine ⟨es ++ [x],.v (.lst [.int (a+zAo c m-1),.int g1,.int g2]),.v (.int g0),?_,by simp;omega,(G1.mono λn h=>inT ha.1 (by omega) ⟨by omega,by omega⟩ u1 u2 h).app (G2.mono λn h=>by rcases h with rfl|rfl<;>omega),λe h=>?_,?_⟩
  ·exists 0,qY,zBm,hn,p0,p1,p2,q1,q2,e1,e2,t,z1,z2,at0,ix30,r3,Int.add_assoc,List.append_assoc,ixO
  ·rw [zEM];exact Nat.add_le_add (C1 e h) (C2 e h)
  ·have ea:a+zAo c m-1=a+(es.length:Int):=by omega
   rw [ea] at sd tw
   exact ⟨es,_,_,_,_,_,_,sd,rfl,by simp [s1',s2'],.inr ⟨x,g0,rfl,rfl,s0',tw⟩⟩
 ·obtain ⟨es,e1,l1,⟨G1,C1⟩,l',n',k',dl,om,sd⟩:=zIJ c a g0 g1 g2 m hm
  obtain ⟨y0,y1,y2⟩:=zGW hm l1
  rw [show b2i (decide (0<mix c 9931 3))=0 by simp [b2i,t]] at y2
  have z0:es.length<=10:=by omega
  have z1:ds.length+es.length<=1000000:=Nat.le_trans (Nat.add_le_add hd z0) (by decide)
  refine ⟨es,.v (.lst [.int g0,.int g1,.int g2]),.v (.int g0),?_,by omega,G1.mono λn h=>inT ha.1 (by omega) u0 u1 u2 h,λe h=>Nat.le_trans (C1 e h) (by decide),es,_,_,_,_,_,_,sd,rfl,by simp [s1',s2'],.inl ⟨rfl,by simp [s0',s1',s2']⟩⟩
  exists 0,qY,zBm,hn,p0,p1,p2,q1,q2,e1,t,z1,at0,ix30,r3,Int.add_assoc,ixO
def sts (m a:Int):List Int->List Int
 | []=>[a]
 |c::cs=>a::sts m (a+zAo c m) cs
theorem zL6 (m:Int):∀ (cs:List Int) (a:Int),(sts m a cs).length=cs.length+1
 | [],_=>rfl
 |c::cs,a=>by rw [sts,List.length_cons,zL6 m cs,List.length_cons]
theorem zL7 {m:Int} (hm:m=2\/m=3\/m=4):∀ (cs:List Int) (a x:Int),x∈sts m a cs->a<=x/\x<=a+11*(cs.length:Int)
 | [],a,x,h=>by simp [sts] at h;subst h;simp
 |c::cs,a,x,h=>by
  have sz:=zIK (c:=c) hm
  rcases List.mem_cons.mp h with rfl|h
  ·simp only [List.length_cons];omega
  ·have:=zL7 hm cs _ x h
   simp only [List.length_cons];omega
def tot (m a:Int):List Int->Int
 | []=>a
 |c::cs=>tot m (a+zAo c m) cs
theorem zPG {m:Int} (hm:m=2\/m=3\/m=4):∀ (cs:List Int) (a:Int),a+cs.length<=tot m a cs/\tot m a cs<=a+11*(cs.length:Int)/\∀ x∈sts m a cs,x<=tot m a cs
 | [],a=>by simp [tot,sts]
 |c::cs,a=>by
  have sz:=zIK (c:=c) hm
  obtain ⟨i1,i2,i3⟩:=zPG hm cs (a+zAo c m)
  simp only [tot,sts,List.length_cons]
  refine ⟨by omega,by omega,λx hx=>?_⟩
  rcases List.mem_cons.mp hx with rfl|hx
  ·omega
  ·exact i3 x hx
theorem zJJ {m:Int} (hm:m=2\/m=3\/m=4):∀ (cs pre:List Int) (a:Int) (s0 s2 s4 s5 s6 s7 s8:Sl),pre.length+cs.length<=100->∃ s4',zb (gN 4) qB (cs.map D.int) [s0,.v (.int m),s2,.l ((pre ++ [a]).map D.int),s4,s5,s6,s7,s8]=some (.nx [s0,.v (.int m),s2,.l ((pre++sts m a cs).map D.int),s4',s5,s6,s7,s8])
 | [],pre,a,s0,s2,s4,s5,s6,s7,s8,_=>⟨s4,rfl⟩
 |c::cs,pre,a,s0,s2,s4,s5,s6,s7,s8,hl=>by
  rw [List.length_cons] at hl
  obtain ⟨s4',ih⟩:=zJJ hm cs (pre ++ [a]) (a+zAo c m) s0 s2 (.v (.int c)) s5 s6 s7 s8 (by simp;omega)
  refine ⟨s4',?_⟩
  have z:=zS4 (c:=c) hm
  have la:=zL2 (pre.map D.int) (D.int a)
  have z1:pre.length+1<16000000:=by omega
  have st:qB [s0,.v (.int m),s2,.l ((pre ++ [a]).map D.int),.v (.int c),s5,s6,s7,s8]=some (.nx [s0,.v (.int m),s2,.l ((pre ++ [a] ++ [a+zAo c m]).map D.int),.v (.int c),s5,s6,s7,s8]):=by
   exists 0,qB,List.map_append,la,z,z1,ixO
  have go:zb (gN 4) qB (D.int c::cs.map D.int) [s0,.v (.int m),s2,.l ((pre ++ [a]).map D.int),s4,s5,s6,s7,s8]=zb (gN 4) qB (cs.map D.int) [s0,.v (.int m),s2,.l ((pre ++ [a] ++ [a+zAo c m]).map D.int),.v (.int c),s5,s6,s7,s8]:=by
   rw [zb,show gN 4 (D.int c) [s0,.v (.int m),s2,.l ((pre ++ [a]).map D.int),s4,s5,s6,s7,s8]=some [s0,.v (.int m),s2,.l ((pre ++ [a]).map D.int),.v (.int c),s5,s6,s7,s8] from rfl,Option.bind_some,st]
   rfl
  rw [List.map_cons,go,ih,sts,List.append_assoc]
  rfl
inductive Rds (m:Int) (S:List Int):List D->Prop
 |nil:Rds m S []
 |snoc {ds es:List D}:Rds m S ds->(ds.length:Int)∈S->((ds.length:Int)+(es.length:Int))∈S->(∀ x∈S,(ds.length:Int)<=x->x<(ds.length:Int)+(es.length:Int)->x=(ds.length:Int))->RdI m S (ds.length:Int) es->Rds m S (ds++es)
theorem zPH {m:Int} (hm:m=2\/m=3\/m=4) {S:List Int} {T:Int} (hS:∀ x∈S,0<=x/\x<=T) (hl:1<=S.length):∀ (cs:List Int) (k:Nat) (a:Int) (ds:List D) (s0 s2 s4 s6 s7 s8:Sl),S.drop k=sts m a cs->(ds.length:Int)=a->ds.length+11*cs.length<=100->zBV m (λn=>0<=n/\n<T+1) ds->(∀ x∈S,x<a\/x∈sts m a cs)->Rds m S ds ->
  ∃ ds' s4' s6' s7' s8',zb (gT 2 (gCs (gN 6) (gCs (gN 4) gNl))) qY (zDa k (cs.map D.int)) [s0,.v (.int m),s2,.l (S.map D.int),s4,.l ds,s6,s7,s8]=some (.nx [s0,.v (.int m),s2,.l (S.map D.int),s4',.l ds',s6',s7',s8']) /\
   (ds'.length:Int)=tot m a cs/\zBV m (λn=>0<=n/\n<T+1) ds'/\(∀ e h,zCk e h ds'<=zCk e h ds+5*cs.length)/\Rds m S ds'
 | [],k,a,ds,s0,s2,s4,s6,s7,s8,_,hd,_,hG,hA,hR=>⟨ds,s4,s6,s7,s8,rfl,hd,hG,λ_ _=>Nat.le_refl _,hR⟩
 |c::cs,k,a,ds,s0,s2,s4,s6,s7,s8,hk,hd,hb,hG,hA,hR=>by
  have sz:=zIK (c:=c) hm
  rw [List.length_cons] at hb
  have h1:S[k]?=some a:=by
   have:=congrArg (λl=>l[0]?) hk
   simpa [sts] using this
  have h2:S[k+1]?=some (a+zAo c m):=by
   have:=congrArg (λl=>l[1]?) hk
   simp only [List.getElem?_drop,sts,List.getElem?_cons_succ] at this
   rw [this]
   cases cs<;>rfl
  have hk':S.drop (k+1)=sts m (a+zAo c m) cs:=by
   rw [<- List.drop_drop,hk];rfl
  obtain ⟨es,s7',s8',e1,e2,e3,e4,e5⟩:=zOB hm hS hl h1 h2 (ds:=ds) (by omega) s0 s2 s7 s8
  have hx:∀ x∈S,x<a\/x=a\/x∈sts m (a+zAo c m) cs:=λx hx=>(hA x hx).imp id λz=>List.mem_cons.mp z
  subst hd
  have hR':Rds m S (ds++es):=.snoc hR (List.mem_of_getElem? h1) (by rw [e2];exact List.mem_of_getElem? h2) (λx hx' x0 x1=>by
   rcases hx x hx' with z|z|z
   ·omega
   ·exact z
   ·have:=(zL7 hm cs _ x z).1;omega) e5
  obtain ⟨ds',t4,t6,t7,t8,i1,i2,i3,i4,i5⟩:=zPH hm hS hl cs (k+1) ((ds.length:Int)+zAo c m) (ds++es) s0 s2 (.v (.int c)) (.v (.int k)) s7' s8' hk' (by simp;omega) (by simp;omega) (hG.app e3) (λx hx'=>by
   rcases hx x hx' with z|z|z
   ·left;omega
   ·left;omega
   ·exact .inr z) hR'
  refine ⟨ds',t4,t6,t7,t8,?_,i2,i3,λe h=>?_,i5⟩
  ·rw [List.map_cons,zDa,zb,show gT 2 (gCs (gN 6) (gCs (gN 4) gNl)) (.tup [.int k,.int c]) [s0,.v (.int m),s2,.l (S.map D.int),s4,.l ds,s6,s7,s8]=some [s0,.v (.int m),s2,.l (S.map D.int),.v (.int c),.l ds,.v (.int k),s7,s8] from rfl,Option.bind_some,e1]
   exact i1
  ·have a1:=i4 e h
   have a2:=e4 e h
   rw [zEM] at a1
   rw [List.length_cons];omega
theorem zFx {s1:Sl} (ns:List Int) (ρ:Rho) (hρ:ρ = [.v (.lst (ns.map D.int)),s1,.un,.un,.un,.un,.un,.un,.un,.un]):∀ (is:List Nat),zM (gN 9) (λ_=>some true) (λρ=>((zC (gV 0) (zC (b2 (zN 1) (gR 9) qT) zP)) ρ).bind z6) (is.map λ(i:Nat)=>D.int (0+(i:Int))) ρ=some ((is.map λi=>ns.getD (1+i) 0).map D.int)
 | []=>rfl
 |i::is=>by
  have ih:=zFx ns ρ hρ is
  subst hρ
  have k:=zLx (ns:=ns) (k:=1+(0+(i:Int))) (by omega)
  rw [show (1+(0+(i:Int))).toNat=1+i by omega,Int.zero_add] at k
  rw [List.map_cons,zM,ih]
  exists k,atI,ixN,ixO,eqO,gN,gT,gCs,gNl,zj,zb,neO
theorem zOC (ns:List Int):∃ m ds,(2<=m/\m<=4)/\zAc [.lst (ns.map D.int)]=some (.tup [.int m,.tup (ds ++ [.tup [.str "end"]])])/\1<=ds.length/\ds.length<=39/\zBV m (λn=>0<=n/\n<(ds.length:Int)+1) ds/\(∀ e h,zCk e h ds<=15)/\∃ S,(∀ x∈S,0<=x/\x<=(ds.length:Int))/\Rds m S ds:=by
 have xa:=qE (ns.getD 0 0) 9973 (m:=3) (by decide)
 have xb:=qF (ns.getD 0 0) 9973 (m:=3) (by decide)
 have xc:=qE (ns.getD 0 0) 9967 (m:=3) (by decide)
 have xd:=qF (ns.getD 0 0) 9967 (m:=3) (by decide)
 have k0:z6 [.lst (ns.map D.int),.int 0]=some (.int (ns.getD 0 0)):=zLx (by decide)
 have hm:2+mix (ns.getD 0 0) 9973 3=2\/2+mix (ns.getD 0 0) 9973 3=3\/2+mix (ns.getD 0 0) 9973 3=4:=by rcases zQ3 xa xb with e|e|e<;>rw [e]<;>decide
 obtain ⟨r,hr⟩:∃ r:Nat,1+mix (ns.getD 0 0) 9967 3=(r:Int):=⟨(1+mix (ns.getD 0 0) 9967 3).toNat,by omega⟩
 have hr3:1<=r/\r<=3:=by omega
 generalize em:2+mix (ns.getD 0 0) 9973 3=m at hm
 have cl:=zFx (s1:=.v (.int m)) ns _ rfl (List.range r)
 generalize hcs:((List.range r).map λi=>ns.getD (1+i) 0)=cs at cl
 have lc:cs.length=r:=by rw [<- hcs];simp
 obtain ⟨t1,t2,t3⟩:=zPG hm cs 0
 have ls:=zL6 m cs 0
 have hS:∀ x∈sts m 0 cs,0<=x/\x<=tot m 0 cs:=λx hx=>⟨(zL7 hm cs 0 x hx).1,t3 x hx⟩
 obtain ⟨s4,l1⟩:=zJJ hm cs [] 0 (.v (.lst (ns.map D.int))) (.v (.lst (cs.map D.int))) .un .un .un .un .un (by simp;omega)
 obtain ⟨ds,u4,u6,u7,u8,l2,d1,d2,d3,d4⟩:=zPH hm hS (by omega) cs 0 0 [] (.v (.lst (ns.map D.int))) (.v (.lst (cs.map D.int))) s4 .un .un .un rfl rfl (by simp;omega) zBV.nil (λx hx=>.inr hx) .nil
 have hl:ds.length<=33:=by omega
 have z1:ds.length+1<=1000000:=Nat.le_trans (Nat.succ_le_succ hl) (by decide)
 have z2:r<=1000000:=Nat.le_trans hr3.2 (by decide)
 refine ⟨m,ds,by omega,?_,by omega,by omega,d2.mono λn h=>by omega,λe h=>by have:=d3 e h;simp only [zCk] at this;omega,_,λx hx=>by have:=hS x hx;omega,d4⟩
 rw [List.nil_append,List.nil_append,List.map_cons,List.map_nil] at l1
 have rl:(rng 0 r).length<=1000000:=by simp [rng];omega
 show (zBU [.v (.lst (ns.map D.int)),.un,.un,.un,.un,.un,.un,.un,.un]).bind _=_
 unfold zBU
 rw [zf (ρ':=[.v (.lst (ns.map D.int)),.v (.int m),.un,.un,.un,.un,.un,.un,.un]) ?g1,zf (ρ':=[.v (.lst (ns.map D.int)),.v (.int m),.v (.lst (cs.map D.int)),.un,.un,.un,.un,.un,.un]) ?g2,zf (ρ':=[.v (.lst (ns.map D.int)),.v (.int m),.v (.lst (cs.map D.int)),.l [.int 0],.un,.un,.un,.un,.un]) rfl,zf ((sFor_eq (ds:=cs.map D.int) rfl).trans l1),zf (ρ':=[.v (.lst (ns.map D.int)),.v (.int m),.v (.lst (cs.map D.int)),.l ((sts m 0 cs).map D.int),s4,.l [],.un,.un,.un]) rfl,zf ((sFor_eq (ds:=zDa 0 (cs.map D.int)) rfl).trans l2),zL4 (d:=.tup [.int m,.tup (ds ++ [.tup [.str "end"]])]) ?g3]
 ·rfl
 case g1=>
  refine (yw (d:=.int m) ?_).trans rfl
  exists 0,k0,zBm,em,atI,ixN,ixO
 case g2=>
  refine (yw (d:=.lst (cs.map D.int)) ?_).trans rfl
  have ci:iR1 (zC (b2 (zN 1) (λρ=>((zC (λρ=>((zC (gV 0) (zC (zN 0) zP)) ρ).bind z6) (zC (zN 9967) (zC (zN 3) zP))) ρ).bind zQ) qT) zP) [.v (.lst (ns.map D.int)),.v (.int m),.un,.un,.un,.un,.un,.un,.un]=some (rng 0 r):=by
   refine zHV ?_ z2
   rw [<- hr]
   exists 0,k0,zBm,atI,ixN,ixO
  unfold zK
  rw [ci,Option.bind_some,if_pos rl]
  exact congrArg (Option.map D.lst) cl
 case g3=>
  exists 0,z1,atI,ixN,ixO
abbrev zB0:List Str:=["place"]
def zAt:ROo:=(sq (sIf (bB (b2 (b2 (gR 0) (zN 0) ixO) (λ_=>some (D.str "end")) eqO)) (zAV (λρ=>(zP ρ).map D.tup)) (λρ=>some (Out.nx ρ))) (zAV (b2 (gR 0) (zN 3) ixO)))
def yb (ds:List D):Option D:=zCg zB0 zAt ds
theorem zRD {g:D->Rho->Option Rho} {F:ROo} {d r:D} {ds:List D} {ρ ρ1:Rho} (h:g d ρ=some ρ1) (k:F ρ1=some (.rt r)):zb g F (d::ds) ρ=some (.rt r):=by simp only [zb,h,k,Option.bind_some]
structure z9 (m:Int) (ps:List Pl):Prop where
 m0:2<=m
 m1:m<=4
 n0:1<=ps.length
 n1:ps.length<=40
 ok:∀ p∈ps,okP m (λn=>0<=n/\n<(ps.length:Int)) p
def dnD (m:Int) (ps:List Pl):D:=.tup [.int m,.tup (ps.map plD)]
theorem zOD (ns:List Int):∃ m ps,zAc [.lst (ns.map D.int)]=some (dnD m ps)/\z9 m ps/\(∃ rows,ps=rows ++ [.fin]/\1<=rows.length/\∀ p∈rows,p≠.fin)/\(∀ e h,zCk e h (ps.map plD)<=15)/\∃ rows S,ps=rows ++ [.fin]/\(∀ x∈S,0<=x/\x<=(rows.length:Int))/\Rds m S (rows.map plD):=by
 obtain ⟨m,ds,hm,e,h1,h2,⟨ps,rfl,h3⟩,h4,S,h5,h6⟩:=zOC ns
 rw [List.length_map] at h1 h2 h3
 refine ⟨m,ps ++ [.fin],by rw [e];simp [dnD,plD],⟨hm.1,hm.2,by simp,by simp;omega,λp hp=>?_⟩,⟨ps,rfl,h1,λp hp=>(h3 p hp).2⟩,λe h=>by rw [List.map_append,zEM];exact h4 e h,ps,S,rfl,by simpa using h5,h6⟩
 rw [List.length_append,List.length_singleton]
 rcases List.mem_append.mp hp with hp|hp
 ·exact (h3 p hp).1
 ·simp at hp;subst hp;trivial
def chs:Pl->List (Str×Int)
 |.fin=>[]
 |.tell _ _ ch=>ch
theorem zIL:((Str.ofString "tell" : Str) == Str.ofString "end")=false:=by decide +kernel
theorem zHW (p:Pl):yb [plD p]=some (.tup ((chs p).map chD)):=by
 cases p with
 |fin=>exists 0,yb,zAt,plD,at0,chs,beq_self_eq_true,ixO
 |tell a b ch=>exists 0,yb,zAt,plD,at0,at3,chs,zIL,ixO
theorem zL8 {ps:List Pl} {n:Int} (h0:0<=n) (h1:n<(ps.length:Int)):∃ p,p∈ps/\ps[n.toNat]?=some p/\atI (ps.map plD) n=some (plD p):=by
 have h2:n.toNat<ps.length:=by omega
 refine ⟨ps[n.toNat],List.getElem_mem _,by simp [h2],?_⟩
 simp [atI,ixN,h0,h1,h2]
theorem okP.next {m:Int} {P:Int->Prop} {p:Pl} (h:okP m P p) {q:Str×Int} (hq:q∈chs p):P q.2:=by
 cases p with
 |fin=>simp [chs] at hq
 |tell a b ch=>exact h.nx q hq
theorem okP.few {m:Int} {P:Int->Prop} {p:Pl} (h:okP m P p):(chs p).length<=3:=by
 cases p with
 |fin=>simp [chs]
 |tell a b ch=>exact h.l1
theorem yc {α:Type} {g:D->Rho->Option Rho} {p:ROb} {f:ROd} {emb:α->D} {ρ:Rho} (test:α->Bool) (out:α->D) :
  ∀ (xs:List α),(∀ x∈xs,∃ ρ1,g (emb x) ρ=some ρ1/\p ρ1=some (test x)/\(test x=true->f ρ1=some (out x)))->zM g p f (xs.map emb) ρ=some ((xs.filter test).map out)
 | [],_=>rfl
 |x::xs,h=>by
  have ih:=yc test out xs λy hy=>h y (List.mem_cons_of_mem _ hy)
  obtain ⟨ρ1,e1,e2,e3⟩:=h x List.mem_cons_self
  rw [List.map_cons,List.filter_cons]
  show (g (emb x) ρ).bind _=_
  rw [e1,Option.bind_some,e2,Option.bind_some]
  cases t:test x with
  |true=>rw [if_pos rfl,e3 t,Option.bind_some,ih,if_pos rfl];rfl
  |false=>rw [if_neg Bool.false_ne_true,ih,if_neg Bool.false_ne_true]
theorem zRE {xs:List D} {lo hi:Option Int}:(zj xs lo hi).length<=xs.length:=by
 exact ((List.take_sublist _ _).trans (List.drop_sublist _ _)).length_le
theorem zRF {α:Type} (f:α->D) (xs:List α) (lo hi:Option Int):∃ ys:List α,zj (xs.map f) lo hi=ys.map f/\ys.length<=xs.length/\∀ y∈ys,y∈xs:=by
 refine ⟨(xs.drop (HT.sIx (xs.map f).length 0 lo)).take (HT.sIx (xs.map f).length (xs.map f).length hi-HT.sIx (xs.map f).length 0 lo),?_,?_,λy hy=>List.mem_of_mem_drop (List.mem_of_mem_take hy)⟩
 ·unfold zj;simp only [List.map_take,List.map_drop]
 ·exact ((List.take_sublist _ _).trans (List.drop_sublist _ _)).length_le
theorem zL9 (p:Pl):eqD (plD p) (.tup [.str "end"])=(match p with | .fin=>true|_=>false):=by
 cases p with
 |fin=>simp [plD,eqD,eqL]
 |tell a b ch=>simp [plD,eqD,eqL]
abbrev zB1:List Str:=["place","dancer"]
def zAu:ROo:=(zAV (zOv (b2 (b2 (gR 0) (zN 0) ixO) (λ_=>some (D.str "tell")) eqO) (b2 (gV 1) (λρ=>((zC (b2 (gR 0) (zN 1) ixO) (zC (b2 (gR 0) (zN 2) ixO) zP)) ρ).map D.tup) inO)))
def yd (ds:List D):Option D:=zCg zB1 zAu ds
def zB2:ROb:=(bB (b2 (b1 (gR 5) zDX) (zN 0) gtO))
def zAe:ROo:=(sq (zLJ 6 5) (sq (sIf (dIn false 4 (gV 6)) (λρ=>some (Out.ct ρ)) (λρ=>some (Out.nx ρ))) (sq (zNW 4 (gV 6) (λ_=>some (D.bl true))) (sIf (zOt (zKJ (λρ=>((zC (b2 (gR 3) (gR 6) ixO) (zC (gV 1) zP)) ρ).bind yd))) (zQL 5 (zK 1 (iT (λρ=>((zC (b2 (gR 3) (gR 6) ixO) zP) ρ).bind yb)) (gN 7) (λ_=>some true) (b2 (gR 7) (zN 1) ixO))) (λρ=>some (Out.nx ρ))))))
abbrev zIM:List Str:=["dance","dancer","some","places","come_to","waiting","number"]
def zIN:ROo:=(sq (qJ 3 (b2 (gR 0) (zN 1) ixO)) (sq (zNV 4) (sq (qG 5 (b1F (gR 2) zKL)) (sq (zEq 300 zB2 zAe) (zAV (b1 (λρ=>((zQO 4) ρ).map D.lst) zGH))))))
def qa (ds:List D):Option D:=zCg zIM zIN ds
def zA1:ROo:=(zAV (λρ=>((zC (gV 2) (zC (b2 (b2 (b3S (gR 3) (λ_=>some none) (oI (gV 4)) slD) (λρ=>((zC (gV 5) zP) ρ).map D.tup) qT) (b3S (gR 3) (oI (b2 (gR 4) (zN 1) qT)) (λ_=>some none) slD) qT) zP)) ρ).map D.tup))
def zFW:ROo:=(sq (sIf (bB (b2 (gR 6) (zN 4) eqO)) (qJ 5 (λρ=>((zC (λ_=>some (D.str "end")) zP) ρ).map D.tup)) (λρ=>some (Out.nx ρ))) zA1)
def zCQ:ROo:=(sq (sIf (bB (b2 (gR 6) (zN 3) eqO)) (qJ 5 (b2 (b3S (gR 5) (λ_=>some none) (oI (zN 3)) slD) (λρ=>((zC (b3S (b2 (gR 5) (zN 3) ixO) (oI (b1 (zN 1) zO3)) (λ_=>some none) slD) zP) ρ).map D.tup) qT)) (λρ=>some (Out.nx ρ))) zFW)
def zCR:ROo:=(sq (sIf (bB (b2 (gR 6) (zN 2) eqO)) (qJ 5 (b2 (b3S (gR 5) (λ_=>some none) (oI (zN 3)) slD) (λρ=>((zC (b2 (b3S (b2 (gR 5) (zN 3) ixO) (λ_=>some none) (oI (b1 (zN 1) zO3)) slD) (λρ=>((zC (λρ=>((zC (b2 (b3S (gR 7) (λ_=>some none) (oI (zN 2)) slD) (λ_=>some (D.str "z")) qT) (zC (gV 8) zP)) ρ).map D.tup) zP) ρ).map D.tup) qT) zP) ρ).map D.tup) qT)) (λρ=>some (Out.nx ρ))) zCQ)
def zFX:ROo:=(sq (sIf (bB (b2 (gR 6) (zN 1) eqO)) (qJ 5 (λρ=>((zC (λ_=>some (D.str "tell")) (zC (b2 (gR 5) (zN 2) ixO) (zC (b2 (gR 5) (zN 1) ixO) (zC (b2 (gR 5) (zN 3) ixO) zP)))) ρ).map D.tup)) (λρ=>some (Out.nx ρ))) zCR)
def qu:ROo:=(sq (sIf (bB (b2 (gR 6) (zN 0) eqO)) (qJ 5 (b2 (b3S (gR 5) (λ_=>some none) (oI (zN 3)) slD) (λρ=>((zC (b2 (b3S (b2 (gR 5) (zN 3) ixO) (λ_=>some none) (oI (b1 (zN 1) zO3)) slD) (λρ=>((zC (λρ=>((zC (gV 7) (zC (λρ=>((zC (gV 1) (zC (zN 9833) (zC (b1 (gR 3) zDX) zP))) ρ).bind zQ) zP)) ρ).map D.tup) zP) ρ).map D.tup) qT) zP) ρ).map D.tup) qT)) (λρ=>some (Out.nx ρ))) zFX)
def qv:ROo:=(sq (qJ 6 (λρ=>((zC (gV 1) (zC (zN 9839) (zC (zN 5) zP))) ρ).bind zQ)) (sq (zRp (b2 (b2 (gR 5) (zN 3) ixO) (b1 (zN 1) zO3) ixO) (gT 2 (gCs (gN 7) (gCs (gN 8) gNl)))) qu))
abbrev zB3:List Str:=["_law_dance_here","_law_cell_here","_law_many","_law_places","_law_at","_law_place","_law_kind","_law_word_here","_law_after"]
def zAv:ROo:=(sq (zRp (gV 0) (gT 2 (gCs (gN 2) (gCs (gN 3) gNl)))) (sq (qJ 4 (λρ=>((zC (gV 1) (zC (zN 9857) (zC (b1 (gR 3) zDX) zP))) ρ).bind zQ)) (sq (qJ 5 (b2 (gR 3) (gR 4) ixO)) (sq (sIf (bB (b2 (gR 5) (λρ=>((zC (λ_=>some (D.str "end")) zP) ρ).map D.tup) eqO)) (qJ 5 (λρ=>((zC (λ_=>some (D.str "tell")) (zC (b2 (gR 1) (gR 2) zFk) (zC (b2 (b2 (gR 1) (zN 1) qT) (gR 2) zFk) (zC (λρ=>((zC (λρ=>((zC (λ_=>some (D.str "z")) (zC (λρ=>((zC (gV 1) (zC (zN 9851) (zC (b1 (gR 3) zDX) zP))) ρ).bind zQ) zP)) ρ).map D.tup) zP) ρ).map D.tup) zP)))) ρ).map D.tup)) (λρ=>some (Out.nx ρ))) qv))))
def yx (ds:List D):Option D:=zCg zB3 zAv ds
def qC:ROb:=(zKJ (gR 4))
def yD:ROo:=(sq (zLJ 5 4) (sIf (bB (b2 (gV 5) (gR 3) zHo)) (sq (zFn 3 (gV 5)) (sq (qJ 6 (b2 (b2 (gR 0) (zN 1) ixO) (gR 5) ixO)) (sIf (zP6 (bB (b2 (b2 (gR 6) (zN 0) ixO) (λ_=>some (D.str "tell")) eqO)) (zP6 (bB (b2 (gR 1) (b2 (gR 6) (zN 1) ixO) neO)) (bB (b2 (gR 1) (b2 (gR 6) (zN 2) ixO) neO)))) (qG 4 (b2F (gR 4) (λρ=>((zK 1 (iT (b2 (gR 6) (zN 3) ixO)) (gN 7) (λ_=>some true) (b2 (gR 7) (zN 1) ixO)) ρ).map D.lst) zi)) (λρ=>some (Out.nx ρ))))) (λρ=>some (Out.nx ρ))))
abbrev zCl:List Str:=["_law_dance_here","_law_dancer","_law_some","_law_found","_law_left","_law_at","_law_place"]
def zBW:ROo:=(sq (qG 3 zP) (sq (qG 4 (b1F (gR 2) zKL)) (sq (zEq 300 qC yD) (zAV (b1 (λρ=>((b1F (gR 3) zAq) ρ).map D.lst) zGH)))))
def yg (ds:List D):Option D:=zCg zCl zBW ds
theorem zOE (l:List D) (x:D):zj (l ++ [x]) none (some (-1))=l:=by
 have e:(-1+((l.length:Int)+1)).toNat=l.length:=by omega
 simp [zj,HT.sIx,e]
theorem zOF (l:List D) (x:D):zj (l ++ [x]) (some (-1)) none = [x]:=by
 have e:(-1+((l.length:Int)+1)).toNat=l.length:=by omega
 simp [zj,HT.sIx,e]
theorem zOG (l:List D) (k:Nat) (h:k<=l.length):zj l none (some (k:Int))=l.take k:=by
 have:¬ ((k:Int)<0):=by omega
 simp [zj,HT.sIx,this,Nat.min_eq_left h]
theorem zOH (l:List D) (k:Nat) (h:k<=l.length):zj l (some (k:Int)) none=l.drop k:=by
 have:¬ ((k:Int)<0):=by omega
 simp only [zj,HT.sIx,this,if_false,Int.toNat_natCast,Nat.min_eq_left h]
 rw [List.take_of_length_le (by simp)]
theorem zMA {α:Type} {l:List α} (h:1<=l.length):∃ ini x,l=ini ++ [x]:=by
 have hn:l≠[]:=by intro e;subst e;simp at h
 exact ⟨l.dropLast,l.getLast hn,(List.dropLast_concat_getLast hn).symm⟩
theorem zS6 (w:Str):Txt.slice w none (some 2)=⟨(w.cps.toList.take 2).toArray⟩:=by
 obtain ⟨⟨l⟩⟩:=w
 match l with
 | []=>rfl
 |[a]=>
  have e:Builtin.Str.strSliceIndices none (some 2) 1 1 = [0]:=by decide +kernel
  simp [Txt.slice,Str.length,e]
 |a::b::l=>exact zFv (a::b::l) 2 (by simp)
def wz (w:Str):Str:=⟨(w.cps.toList.take 2 ++ [122]).toArray⟩
theorem z_str:(Str.ofString "z")=⟨[122].toArray⟩:=by decide +kernel
theorem wz_ok (h:okW w):okW (wz w):=by
 obtain ⟨h1,h2,h3⟩:=h
 obtain ⟨⟨l⟩⟩:=w
 simp only [Str.length,List.size_toArray] at h1 h2
 simp only at h3
 refine ⟨by simp [wz,Str.length],by simp [wz,Str.length];omega,λx hx=>?_⟩
 simp [wz] at hx
 rcases hx with hx|rfl
 ·exact h3 x (List.mem_of_mem_take hx)
 ·decide
theorem okz:okW (Str.ofString "z"):=by
 rw [z_str]
 exact ⟨by decide,by decide,λx hx=>by simp at hx;subst hx;decide⟩
theorem wz_ge (h:okW w) (k:Lt v w):Lt v (wz w):=by
 obtain ⟨h1,h2,h3⟩:=h
 obtain ⟨⟨l⟩⟩:=w
 simp only [Str.length,List.size_toArray] at h1 h2
 simp only at h3
 by_cases e:(⟨⟨l⟩⟩:Str)=wz ⟨⟨l⟩⟩
 ·rw [<- e];exact k
 ·refine k.trans (Lt.total ?_ e)
  rw [Lt.def]
  match l with
  | []=>simp at h1
  | [a]=>simp [wz]
  | [a,b]=>simp [wz]
  |[a,b,c]=>
   have hc:=(h3 c (by simp)).2
   simp only [wz,List.take_succ_cons,List.take_zero,List.cons_append,List.nil_append]
   intro q
   simp only [List.cons_lt_cons_iff,Nat.lt_irrefl,false_or,true_and] at q
   rcases q with q|q
   ·omega
   ·exact absurd q.2 (List.lt_irrefl _)
  |a::b::c::d::l=>simp at h2
theorem z9.set {ps:List Pl} (h:z9 m ps) (k:Nat) (p:Pl) (hp:okP m (λn=>0<=n/\n<(ps.length:Int)) p):z9 m (ps.set k p):=by
 refine ⟨h.m0,h.m1,by simpa using h.n0,by simpa using h.n1,λq hq=>?_⟩
 rw [List.length_set]
 rcases List.mem_or_eq_of_mem_set hq with hq|rfl
 ·exact h.ok q hq
 ·exact hp
theorem zS7 (ps:List Pl) (k:Nat) (p:Pl) (h:k<ps.length):(ps.map plD).take k++([plD p]++(ps.map plD).drop (k+1))=(ps.set k p).map plD:=by
 rw [List.set_eq_take_append_cons_drop,if_pos h]
 simp
theorem zIO (h:zAd (l ++ [w])) (k:∀ v,Lt v w->Lt v w'):zAd (l ++ [w']):=by
 rw [zAd,List.pairwise_append] at h ⊢
 refine ⟨h.1,by simp,λa ha b hb=>?_⟩
 simp at hb
 subst hb
 exact k a (h.2.2 a ha w (by simp))
theorem zMB {c:ROb} {F F':ROo} (h:c ρ=some true) (k:F ρ=r):sIf c F F' ρ=r:=by
 rw [<- k];simp only [sIf,h,Option.bind_some,if_true]
theorem zRG {l r:List D} (h:l.length+r.length<=1000000):qT (.tup l) (.tup r)=some (.tup (l++r)):=if_pos h
theorem add_s {l r:Str} (h:l.length+r.length<=1000000):qT (.str l) (.str r)=some (.str (l++r)):=if_pos h
theorem zS8 {A:ROd} (h:A ρ=some a):((zC A zP) ρ).map D.tup=some (.tup [a]):=by simp only [zC,h,Option.bind_some,Option.map_some]
theorem zRH {A B:ROd} (h:A ρ=some a) (k:B ρ=some b):((zC A (zC B zP)) ρ).map D.tup=some (.tup [a,b]):=by simp only [zC,h,k,Option.bind_some,Option.map_some]
theorem zS9 {f:ROd} {g:D->Rho->Option Rho} (h:f ρ=some d) (k:g d ρ=some ρ'):zRp f g ρ=some (.nx ρ'):=by simp only [zRp,h,k,Option.bind_some,Option.map_some]
theorem zTA {ps:List Pl} (h:z9 m ps) (hat:at' < ps.length) (p:Pl) (hd:plD p=d) :
  zA1 [s0,s1,.v (.int m),.v (.tup (ps.map plD)),.v (.int at'),.v d,s6,s7,s8]=some (.rt (dnD m (ps.set at' p))):=by
 subst hd
 have hps:=h.n1
 have l1:((ps.map plD).take at').length<=40:=by simp;omega
 have l2:((ps.map plD).drop (at'+1)).length<=40:=by simp;omega
 have e:=zRH (ρ:=[s0,s1,.v (.int m),.v (.tup (ps.map plD)),.v (.int at'),.v (plD p),s6,s7,s8]) (A:=λρ=>zP4 ρ 2) (a:=.int m) rfl (zGV (op:=qT) (zGV (op:=qT) (A:=b3S (gR 3) (λ_=>some none) (oI (gV 4)) slD) (B:=λρ=>((zC (gV 5) zP) ρ).map D.tup)
  (Eq.trans (by kernel_rfl) (congrArg (λz=>some (D.tup z)) (zOG (ps.map plD) at' (by simp;omega)))) rfl (zRG (r:=[plD p]) (by simp only [List.length_singleton];omega)))
  (B:=b3S (gR 3) (oI (b2 (gR 4) (zN 1) qT)) (λ_=>some none) slD) (Eq.trans (by kernel_rfl) (congrArg (λz=>some (D.tup z)) (zOH (ps.map plD) (at'+1) (by simp;omega)))) (zRG (by simp only [List.length_append,List.length_singleton];omega)))
 rw [List.append_assoc,zS7 ps at' p hat] at e
 exact congrArg (Option.map Out.rt) e
theorem zMC {E:ROd} (hE:E [s0,s1,s2,s3,s4,.v (.tup [k,a,b,x]),s6,s7,s8]=some e) :
  qJ 5 (b2 (b3S (gR 5) (λ_=>some none) (oI (λ_=>some (.int 3))) slD) (λρ=>((zC E zP) ρ).map .tup) qT) [s0,s1,s2,s3,s4,.v (.tup [k,a,b,x]),s6,s7,s8]=some (.nx [s0,s1,s2,s3,s4,.v (.tup [k,a,b,e]),s6,s7,s8]):=
 yw (zGV (a:=.tup [k,a,b]) (by kernel_rfl) (zS8 hE) (by kernel_rfl))
theorem zPI {l:List D} {B:ROd} (hl:l.length<=3) (h:B [s0,s1,s2,s3,s4,.v (.tup [k,a,b,.tup (l ++ [x])]),s6,s7,s8]=some y) :
  b2 (b3S (b2 (gR 5) (zN 3) ixO) (λ_=>some none) (oI (b1 (zN 1) zO3)) slD) (λρ=>((zC B zP) ρ).map D.tup) qT [s0,s1,s2,s3,s4,.v (.tup [k,a,b,.tup (l ++ [x])]),s6,s7,s8]=some (.tup (l ++ [y])):=
 zGV (a:=.tup l) (Eq.trans (by kernel_rfl) (congrArg (λz=>some (D.tup z)) (zOE l x))) (zS8 h) (zRG (by simp only [List.length_singleton];omega))
theorem sk2 (s0 s1 s2 s3 s4 s5 s7 s8:Sl):qu [s0,s1,s2,s3,s4,s5,.v (.int 2),s7,s8]=zCR [s0,s1,s2,s3,s4,s5,.v (.int 2),s7,s8]:=by kernel_rfl
theorem sk3 (s0 s1 s2 s3 s4 s5 s7 s8:Sl):qu [s0,s1,s2,s3,s4,s5,.v (.int 3),s7,s8]=zCQ [s0,s1,s2,s3,s4,s5,.v (.int 3),s7,s8]:=by kernel_rfl
theorem zMD {ps:List Pl} (h:z9 m ps) (k:okT m (λn=>0<=n/\n<(ps.length:Int)) a b (ini ++ [(w,x)])) (at':Nat) (hat:at' < ps.length) :
  ∃ p,okP m (λn=>0<=n/\n<(ps.length:Int)) p/\qv [.v (dnD m ps),.v (.int c),.v (.int m),.v (.tup (ps.map plD)),.v (.int at'),.v (plD (.tell a b (ini ++ [(w,x)]))),.un,.un,.un]=some (.rt (dnD m (ps.set at' p))):=by
 have hn:(0:Int)<(ps.length:Int):=by omega
 have y1:0<=mix c 9833 (ps.length:Int)/\mix c 9833 (ps.length:Int)<(ps.length:Int):=⟨qE _ _ hn,qF _ _ hn⟩
 have hw:okW w:=k.wd (w,x) (by simp)
 have ki:∀ q∈ini,q∈ini ++ [(w,x)]:=λq hq=>List.mem_append_left _ hq
 have l1:=k.l1
 have rs:=k.rs
 simp only [List.length_append,List.length_singleton,List.map_append,List.map_cons,List.map_nil] at l1 rs
 have li:(ini.map chD).length<=3:=by simp;omega
 have hl:w.length<=1000000:=by have:=hw.2.1;omega
 have l2:(w.cps.toList.take 2).length<=2:=List.length_take_le 2 _
 have e3:∀ y,(ini ++ [y]).map chD=ini.map chD ++ [chD y]:=λy=>by simp
 have hp:∀ y,plD (.tell a b (ini ++ [y])) = .tup [.str "tell",.int a,.int b,.tup (ini.map chD ++ [chD y])]:=λy=>by rw [<- e3];rfl
 have st:qv [.v (dnD m ps),.v (.int c),.v (.int m),.v (.tup (ps.map plD)),.v (.int at'),.v (plD (.tell a b (ini ++ [(w,x)]))),.un,.un,.un]=qu [.v (dnD m ps),.v (.int c),.v (.int m),.v (.tup (ps.map plD)),.v (.int at'),.v (.tup [.str "tell",.int a,.int b,.tup (ini.map chD ++ [.tup [.str w,.int x]])]),.v (.int (mix c 9839 5)),.v (.str w),.v (.int x)]:=by
  rw [hp]
  refine (zf (ρ':=[.v (dnD m ps),.v (.int c),.v (.int m),.v (.tup (ps.map plD)),.v (.int at'),.v (.tup [.str "tell",.int a,.int b,.tup (ini.map chD ++ [chD (w,x)])]),.v (.int (mix c 9839 5)),.un,.un]) (yw (zBm (by decide) (by decide)))).trans (zf ?_)
  exact zS9 (zGV (a:=.tup (ini.map chD ++ [chD (w,x)])) (b:=.int (-1)) (by kernel_rfl) rfl (zL2 _ _)) rfl
 rw [st]
 have rt:∀ (i:Int) (p:Pl) {d:D},plD p=d->zA1 [.v (dnD m ps),.v (.int c),.v (.int m),.v (.tup (ps.map plD)),.v (.int at'),.v d,.v (.int i),.v (.str w),.v (.int x)]=some (.rt (dnD m (ps.set at' p))):=λi p d hd=>zTA h hat p hd
 have e0:=qE c 9839 (m:=5) (by decide)
 have e1:=qF c 9839 (m:=5) (by decide)
 have cs:mix c 9839 5=0\/mix c 9839 5=1\/mix c 9839 5=2\/mix c 9839 5=3\/mix c 9839 5=4:=by omega
 have li':1<=ini.length+1:=by omega
 rcases cs with e|e|e|e|e<;>rw [e]
 ·have hm:zQ [.int c,.int 9833,.int ((ps.map plD).length:Int)]=some (.int (mix c 9833 ps.length)):=by rw [List.length_map];exact zBm (by decide) hn
  refine ⟨.tell a b (ini ++ [(w,mix c 9833 (ps.length:Int))]),⟨k.a0,k.a1,k.b0,k.b1,k.ne,by simp,by simpa using l1,by simpa using rs,λq hq=>?_,λq hq=>?_⟩,
   (zf (zMB (by kernel_rfl) (zMC (zPI li (zRH (a:=.str w) rfl (Eq.trans (by kernel_rfl) hm)))))).trans (Eq.trans (by kernel_rfl) (rt 0 _ (hp _)))⟩
  ·rcases List.mem_append.mp hq with hq|hq
   ·exact k.wd q (ki q hq)
   ·cases List.mem_singleton.mp hq;exact hw
  ·rcases List.mem_append.mp hq with hq|hq
   ·exact k.nx q (ki q hq)
   ·cases List.mem_singleton.mp hq;exact y1
 ·exact ⟨.tell b a (ini ++ [(w,x)]),⟨k.b0,k.b1,k.a0,k.a1,λe=>k.ne e.symm,k.l0,k.l1,k.rs,k.wd,k.nx⟩,Eq.trans (by kernel_rfl) (rt 1 _ (congrArg (λl=>D.tup [.str "tell",.int b,.int a,.tup l]) (e3 (w,x))))⟩
 ·refine ⟨.tell a b (ini ++ [(wz w,x)]),⟨k.a0,k.a1,k.b0,k.b1,k.ne,by simp,by simpa using l1,by simpa using zIO rs (λv hv=>wz_ge hw hv),λq hq=>?_,λq hq=>?_⟩,
   (sk2 ..).trans ((zf (zMB (by kernel_rfl) (zMC (zPI li (zRH (a:=.str (wz w)) ?_ rfl))))).trans (Eq.trans (by kernel_rfl) (rt 2 _ (hp _))))⟩
  ·rcases List.mem_append.mp hq with hq|hq
   ·exact k.wd q (ki q hq)
   ·cases List.mem_singleton.mp hq;exact wz_ok hw
  ·rcases List.mem_append.mp hq with hq|hq
   ·exact k.nx q (ki q hq)
   ·cases List.mem_singleton.mp hq;exact k.nx (w,x) (by simp)
  ·exact zGV (a:=.str (Txt.slice w none (some 2))) (b:=.str (Str.ofString "z")) (if_pos hl) rfl (by
    rw [zS6,z_str]
    exact (add_s (by rw [zIG,zIG];exact Nat.le_trans (Nat.add_le_add_right l2 1) (by decide))).trans (by rw [zLz];rfl))
 ·exact ⟨.tell a b [(w,x)],⟨k.a0,k.a1,k.b0,k.b1,k.ne,by simp,by simp,by simp,λq hq=>k.wd q (by simp at hq;simp [hq]),λq hq=>k.nx q (by simp at hq;simp [hq])⟩,
   (sk3 ..).trans ((zf (zMB (by kernel_rfl) (zMC (Eq.trans (by kernel_rfl) (congrArg (λz=>some (D.tup z)) (zOF (ini.map chD) (.tup [.str w,.int x]))))))).trans (Eq.trans (by kernel_rfl) (rt 3 _ rfl)))⟩
 ·exact ⟨.fin,trivial,Eq.trans (by kernel_rfl) (rt 4 .fin rfl)⟩
theorem zME {ps:List Pl} (h:z9 m ps) (c:Int):∃ ps',z9 m ps'/\ps'.length=ps.length/\(∃ k p,ps'=ps.set k p/\(chs p).length<=3)/\yx [dnD m ps,.int c]=some (dnD m ps'):=by
 have hn:(0:Int)<(ps.length:Int):=by have:=h.n0;omega
 have a0:=qE c 9857 hn
 have a1:=qF c 9857 hn
 obtain ⟨at',hat⟩:∃ at':Nat,mix c 9857 (ps.length:Int)=(at':Int):=⟨(mix c 9857 (ps.length:Int)).toNat,by omega⟩
 rw [hat] at a0 a1
 have hl:at' < ps.length:=by omega
 obtain ⟨p,hp,e1,e2⟩:=zL8 a0 a1
 have ok:=h.ok p hp
 have m0:0<m:=by have:=h.m0;omega
 have fin:∀ a b ch,okT m (λn=>0<=n/\n<(ps.length:Int)) a b ch->∃ p,okP m (λn=>0<=n/\n<(ps.length:Int)) p/\qv [.v (dnD m ps),.v (.int c),.v (.int m),.v (.tup (ps.map plD)),.v (.int at'),.v (plD (.tell a b ch)),.un,.un,.un]=some (.rt (dnD m (ps.set at' p))):=λa b ch k=>by
  obtain ⟨ini,⟨w,x⟩,rfl⟩:=zMA k.l0
  exact zMD h k at' hl
 cases p with
 |fin=>
  have y0:=qE c 9851 hn
  have y1:=qF c 9851 hn
  have q1:c%m≠(c+1)%m:=by
   have:=h.m0;have:=h.m1
   have:m=2\/m=3\/m=4:=by omega
   rcases this with rfl|rfl|rfl<;>omega
  obtain ⟨p',hp',ef⟩:=fin (c%m) ((c+1)%m) [(Str.ofString "z",mix c 9851 (ps.length:Int))] ⟨Int.emod_nonneg _ (by omega),Int.emod_lt_of_pos _ m0,Int.emod_nonneg _ (by omega),Int.emod_lt_of_pos _ m0,q1,by simp,by simp,by simp,by simpa using okz,by simpa using ⟨y0,y1⟩⟩
  refine ⟨_,h.set at' p' hp',by simp,⟨_,_,rfl,hp'.few⟩,?_⟩
  simp only [dnD,plD,List.map_cons,List.map_nil,chD] at ef e2 ⊢
  exists yx,zAv,zBm,hn,hat,e2,m0,beq_self_eq_true,ef,ixO,eqO,zM,gN,gT,gCs,gNl,zb,neO
 |tell a b ch=>
  obtain ⟨p',hp',ef⟩:=fin a b ch ok
  refine ⟨_,h.set at' p' hp',by simp,⟨_,_,rfl,hp'.few⟩,?_⟩
  have ne1:eqO (plD (.tell a b ch)) (.tup [.str "end"])=some (.bl false):=by
   have hd:dep (.tup [.str "end"])<=20:=by decide
   unfold eqO;rw [if_pos (by omega),zL9]
  simp only [dnD] at ef ⊢
  exists yx,zAv,zBm,hn,hat,e2,ne1,ef,ixO,zM,gN,gT,gCs,gNl,zb,neO
def tp (p:Pl) (d:Int):Bool:=match p with
 |.fin=>false
 |.tell a b _=>decide (d=a) || decide (d=b)
theorem zGX:((Str.ofString "end" : Str) == Str.ofString "tell")=false:=by decide +kernel
theorem in2 (d a b:Int):inO (.int d) (.tup [.int a,.int b])=some (.bl (decide (d=a) || decide (d=b))):=by
 have e1:(a == d)=decide (d=a):=by rw [Bool.beq_eq_decide_eq];exact decide_eq_decide.mpr ⟨λh=>h.symm,λh=>h.symm⟩
 have e2:(b == d)=decide (d=b):=by rw [Bool.beq_eq_decide_eq];exact decide_eq_decide.mpr ⟨λh=>h.symm,λh=>h.symm⟩
 have f1:eqD (.int a) (.int d)=(a == d):=by unfold eqD;rfl
 have f2:eqD (.int b) (.int d)=(b == d):=by unfold eqD;rfl
 unfold inO
 rw [if_pos (by simp [dep])]
 show some (D.bl (eqD (.int a) (.int d) || (eqD (.int b) (.int d) || false)))=_
 rw [f1,f2,e1,e2,Bool.or_false]
theorem zIP (p:Pl) (d:Int):yd [plD p,.int d]=some (.bl (tp p d)):=by
 cases p with
 |fin=>exists 0,yd,zAu,plD,at0,tp,zGX,ixO
 |tell a b ch=>
  exists 0,yd,zAu,plD,at0,at1,at2,tp,beq_self_eq_true,in2,ixO
def zCm (ps:List Pl) (d n:Int):List Int:=match ps[n.toNat]? with
 |some p=>if tp p d then [] else (chs p).map (·.2)
 |none=>[]
def run (ps:List Pl) (d:Int):Nat->List Int->List Int->Option (List Int)
 |0,_,_=>none
 |k+1,found,ws=>match ws.getLast? with
  |none=>some found
  |some n=>if n∈found then run ps d k found ws.dropLast else run ps d k (found ++ [n]) (ws.dropLast++zCm ps d n)
theorem zB4 {c:ROb} {F:ROo} (h:c ρ=some true) (e:F ρ=some (.nx ρ')\/F ρ=some (.ct ρ')):zAA c F (k+1) ρ=zAA c F k ρ':=by
 rcases e with e|e<;>simp only [zAA,h,Option.bind_some,if_true,e]
theorem zDl {c:ROb} {F:ROo} (h:c ρ=some false):zAA c F (k+1) ρ=some (.nx ρ):=by
 simp [zAA,h]
theorem zCH {α:Type} {ws:List α} {n:α} (h:ws.getLast?=some n):ws=ws.dropLast ++ [n]/\0<ws.length:=by
 obtain ⟨ys,rfl⟩:=List.getLast?_eq_some_iff.mp h
 simp
def tk (found:List Int):List (Key×D):=found.map λn=>(Sum.inl n,D.bl true)
theorem zMF (n:Int):∀ (found:List Int),(zFT (tk found) (.inl n)).isSome=decide (n∈found)
 | []=>rfl
 |x::found=>by
  have ih:=zMF n found
  unfold zFT tk at ih ⊢
  simp only [List.map_cons,List.find?_cons]
  by_cases e:x=n
  ·subst e;simp
  ·have e':¬ (Sum.inl x:Key)=Sum.inl n:=λz=>e (by simpa using z)
   have e2:¬ n=x:=λz=>e z.symm
   simp only [e',decide_false,List.mem_cons,e2,false_or]
   exact ih
theorem zPJ (h:n∉found):zO5 (tk found) (.inl n) (.bl true)=tk (found ++ [n]):=by
 unfold zO5
 rw [if_neg]
 ·simp [tk]
 ·simp [tk]
  exact h
def Inn (ps:List Pl) (ws:List Int):Prop:=∀ n∈ws,0<=n/\n<(ps.length:Int)
theorem zGY (h:z9 m ps) (d n:Int):Inn ps (zCm ps d n)/\(zCm ps d n).length<=3:=by
 unfold zCm
 split
 ·rename_i p e
  have ok:=h.ok p (List.mem_of_getElem? e)
  split
  ·exact ⟨λ_ h=>by simp at h,by simp⟩
  ·refine ⟨λx hx=>?_,by simpa using ok.few⟩
   obtain ⟨q,hq,rfl⟩:=List.mem_map.mp hx
   exact ok.next hq
 ·exact ⟨λ_ h=>by simp at h,by simp⟩
theorem zJK (ρ:Rho) (hl:ρ.length=7) (ch:List (Str×Int)):zM (gN 7) (λ_=>some true) (b2 (gR 7) (zN 1) ixO) (ch.map chD) (ρ ++ [.un])=some ((ch.map (·.2)).map D.int):=by
 have:=yc (g:=gN 7) (p:=λ_=>some true) (f:=b2 (gR 7) (zN 1) ixO) (emb:=chD) (ρ:=ρ ++ [.un]) (λ_=>true) (λq=>D.int q.2) ch λq _=>by
  refine ⟨_,rfl,rfl,λ_=>?_⟩
  have e:((ρ ++ [Sl.un]).set 7 (.v (chD q)))[7]?=some (.v (chD q)):=List.getElem?_set_self (by simp [hl])
  simp only [chD] at e ⊢
  exists 0,at1,e,ixO
 rw [this,List.filter_eq_self.mpr (by simp),List.map_map]
 rfl
theorem zJ3 {m:Int} {ps:List Pl} (h:z9 m ps) {d:Int} {found ws:List Int} {n:Int} (hf:found.length<=1000) (hw:ws.length<=1000) (hl:ws.getLast?=some n) (hn:0<=n/\n<(ps.length:Int)) :
  (zAe [s0,.v (.int d),s2,.v (.tup (ps.map plD)),.m (tk found),.l (ws.map D.int),s6]=some (.nx [s0,.v (.int d),s2,.v (.tup (ps.map plD)),.m (tk (if n∈found then found else found ++ [n])),.l ((if n∈found then ws.dropLast else ws.dropLast++zCm ps d n).map D.int),.v (.int n)]) \/
  zAe [s0,.v (.int d),s2,.v (.tup (ps.map plD)),.m (tk found),.l (ws.map D.int),s6]=some (.ct [s0,.v (.int d),s2,.v (.tup (ps.map plD)),.m (tk (if n∈found then found else found ++ [n])),.l ((if n∈found then ws.dropLast else ws.dropLast++zCm ps d n).map D.int),.v (.int n)])):=by
 obtain ⟨p,hp,e1,e2⟩:=zL8 hn.1 hn.2
 have ok:=h.ok p hp
 obtain ⟨ew,hpos⟩:=zCH hl
 have g1:(ws.map D.int)[ws.length-1]?=some (.int n):=by
  rw [List.getElem?_map,<- List.getLast?_eq_getElem?,hl];rfl
 have gt:=zMF n found
 have tl:(tk found).length<1000000:=by simp [tk];omega
 have hd:(ws.map D.int).dropLast=ws.dropLast.map D.int:=by rw [List.map_dropLast]
 have few:=ok.few
 have hl3:(chs p).length<=1000000:=by omega
 have hl4:ws.length-1+(chs p).length<=1000000:=by omega
 by_cases hm:n∈found
 ·right
  rw [decide_eq_true hm] at gt
  simp only [hm,if_true]
  exists 0,zAe,zLJ,g1,zGs,gt,hd,ixO
 ·left
  rw [decide_eq_false hm] at gt
  have pt:=zPJ hm
  simp only [hm,if_false]
  cases ht:tp p d with
  |true=>
   have eo:zCm ps d n = []:=by simp [zCm,e1,ht]
   exists 0,zAe,zLJ,g1,zGs,gt,tl,pt,hd,e2,zIP,ht,eo,ixO
  |false=>
   have eo:zCm ps d n=(chs p).map (·.2):=by simp [zCm,e1,ht]
   have cs:=zJK [s0,.v (.int d),s2,.v (.tup (ps.map plD)),.m (tk (found ++ [n])),.l (ws.dropLast.map D.int),.v (.int n)] rfl (chs p)
   unfold zAe
   generalize (b2 (gR 7) (zN 1) ixO)=el at cs ⊢
   simp only [List.cons_append,List.nil_append] at cs
   exists zLJ,g1,zGs,gt,tl,pt,hd,e2,zIP,ht,eo,zQL,zHW,hl3,cs,List.length_dropLast,hl4,List.map_append,ixO,eqO,gN,gT,gCs,gNl,zj,zb,neO
def unv (n:Nat) (found:List Int):Nat:=(List.range n).countP λ(i:Nat)=>!decide ((i:Int)∈found)
theorem zE4 {α:Type} {p q:α->Bool}:∀ {l:List α} {x:α},(∀ y∈l,q y=true->p y=true)->x∈l->p x=true->q x=false->l.countP q+1<=l.countP p
 | [],x,_,hx,_,_=>by simp at hx
 |y::l,x,h,hx,h1,h2=>by
  rw [List.countP_cons,List.countP_cons]
  have mono:l.countP q<=l.countP p:=List.countP_mono_left λz hz hq=>h z (List.mem_cons_of_mem _ hz) hq
  rcases List.mem_cons.mp hx with rfl|hx
  ·rw [h1,h2];simp;exact mono
  ·have ih:=zE4 (l:=l) (λz hz=>h z (List.mem_cons_of_mem _ hz)) hx h1 h2
   have hy:=h y List.mem_cons_self
   cases e:q y with
   |true=>rw [hy e];simp;omega
   |false=>simp;split<;>omega
theorem zJL {n:Nat} {found:List Int} {k:Int} (h0:0<=k) (h1:k<(n:Int)) (h:k∉found):unv n (found ++ [k])+1<=unv n found:=by
 refine zE4 (x:=k.toNat) (λy _ hy=>?_) (by simp;omega) ?_ ?_
 ·simp at hy ⊢
  exact hy.1
 ·have:((k.toNat:Nat):Int)=k:=by omega
  simp [this,h]
 ·have:((k.toNat:Nat):Int)=k:=by omega
  simp [this]
theorem zPK (n:Nat) (found:List Int):unv n found<=n:=by
 have:=List.countP_le_length (l:=List.range n) (p:=λ(i:Nat)=>!decide ((i:Int)∈found))
 simpa [unv] using this
theorem T_ap {ws:List Int}:zB2 [s0,s1,s2,s3,s4,.l (ws.map D.int),s6]=some (decide (0<ws.length)):=by
 exists 0,zB2,ixO
 congr 1
 exact decide_eq_decide.mpr (by omega)
theorem zB5 {ws:List Int} (h:ws.getLast?=none):ws = []:=by
 cases ws with
 |nil=>rfl
 |cons a l=>simp [List.getLast?_cons] at h
theorem zRI {m:Int} {ps:List Pl} (h:z9 m ps) (d:Int):∀ (k:Nat) (found ws:List Int),Inn ps ws->found.length+unv ps.length found<=40->4*unv ps.length found+ws.length<k->k<=1000->∃ f,run ps d k found ws=some f/\f.length<=40 /\
  (∀ s0 s2 s6,∃ s6',zAA zB2 zAe k [s0,.v (.int d),s2,.v (.tup (ps.map plD)),.m (tk found),.l (ws.map D.int),s6]=some (.nx [s0,.v (.int d),s2,.v (.tup (ps.map plD)),.m (tk f),.l [],s6']))
 |0,_,_,_,_,hk,_=>by omega
 |k+1,found,ws,hi,hf,hk,hk2=>by
  unfold run
  cases e:ws.getLast? with
  |none=>
   have:=zB5 e
   subst this
   exact ⟨found,rfl,by omega,λs0 s2 s6=>⟨s6,zDl T_ap⟩⟩
  |some n=>
   obtain ⟨ew,hp⟩:=zCH e
   have hn:=hi n (by rw [ew];simp)
   have hi':Inn ps ws.dropLast:=λx hx=>hi x ((List.dropLast_sublist _).subset hx)
   have tA:=λ(s0 s2 s6:Sl)=>zJ3 h (d:=d) (s0:=s0) (s2:=s2) (s6:=s6) (found:=found) (by omega) (by omega) e hn
   have go:∀ s0 s1 s2 s3 s4 s6,zB2 [s0,s1,s2,s3,s4,.l (ws.map D.int),s6]=some true:=λ_ _ _ _ _ _=>by rw [T_ap];simp [hp]
   simp only
   by_cases hm:n∈found
   ·simp only [hm,if_true] at tA ⊢
    obtain ⟨f,r1,r2,r3⟩:=zRI h d k found ws.dropLast hi' hf (by rw [List.length_dropLast];omega) (by omega)
    refine ⟨f,r1,r2,λs0 s2 s6=>?_⟩
    obtain ⟨s6',e'⟩:=r3 s0 s2 (.v (.int n))
    exact ⟨s6',by rw [zB4 (go _ _ _ _ _ _) (tA s0 s2 s6),e']⟩
   ·simp only [hm,if_false] at tA ⊢
    have u:=zJL (n:=ps.length) hn.1 hn.2 hm
    obtain ⟨o1,o2⟩:=zGY h d n
    obtain ⟨f,r1,r2,r3⟩:=zRI h d k (found ++ [n]) (ws.dropLast++zCm ps d n) (λx hx=>by
     rcases List.mem_append.mp hx with hx|hx
     ·exact hi' x hx
     ·exact o1 x hx) (by simp;omega) (by rw [List.length_append,List.length_dropLast];omega) (by omega)
    refine ⟨f,r1,r2,λs0 s2 s6=>?_⟩
    obtain ⟨s6',e'⟩:=r3 s0 s2 (.v (.int n))
    exact ⟨s6',by rw [zB4 (go _ _ _ _ _ _) (tA s0 s2 s6),e']⟩
theorem zOI (l:List Int):RD.zJt (l.map D.int)=some l:=by
 induction l with
 |nil=>rfl
 |cons x xs ih=>simp [RD.zJt,ih]
theorem zHX {l:List Int} (h:l.length<64):zEk (.lst (l.map D.int))=some ((zA7 l).map D.int):=by
 simp only [zEk,zKL,Option.bind_some,List.length_map,h,if_true,zOI]
theorem zRJ (f:List Int):zNX (tk f)=f.map D.int:=by simp [zNX,tk,zKM]
theorem zEN (h:z9 m ps) (d:Int) (some':List Int) (hs:Inn ps some') (hl:some'.length<=100):∃ f,run ps d 300 [] some'=some f/\f.length<=40/\qa [dnD m ps,.int d,.tup (some'.map D.int)]=some (.tup ((zA7 f).map D.int)):=by
 have hu:=zPK ps.length []
 have hn:=h.n1
 obtain ⟨f,r1,r2,r3⟩:=zRI h d 300 [] some' hs (by simp;omega) (by omega) (by omega)
 refine ⟨f,r1,r2,?_⟩
 obtain ⟨s6',e⟩:=r3 (.v (dnD m ps)) (.v (.tup (some'.map D.int))) .un
 have e0:ixO (dnD m ps) (.int 1)=some (.tup (ps.map plD)):=by simp only [dnD,ixO,at1]
 have tk0:tk [] = []:=rfl
 rw [tk0] at e
 exists 0,qa,zIN,e0,e,zQO,zRJ,zHX (show f.length<64 by omega)
abbrev zE5:List Str:=["place","dancer"]
def zC9:ROo:=(zAV (vOr (b2 (b2 (gR 0) (zN 0) ixO) (λ_=>some (D.str "end")) eqO) (λρ=>((zC (gV 0) (zC (gV 1) zP)) ρ).bind yd)))
def zBD (ds:List D):Option D:=zCg zE5 zC9 ds
def zAf:ROd:=(b2 (b2 (gR 0) (zN 1) ixO) (gR 4) ixO)
def zAg:ROb:=(zKJ (λρ=>((zC (gV 4) (zC (gV 1) zP)) ρ).bind zBD))
def zAh:ROd:=(gV 4)
abbrev zBX:List Str:=["dance","dancer","some","places"]
def zBY:ROo:=(sq (qJ 3 λρ=>((zK 1 (iT (gV 2)) (gN 4) (λ_=>some true) zAf) ρ).map D.lst) (zAV (λρ=>((zK 1 (iL (gV 3)) (gN 4) zAg zAh) ρ).map D.lst)))
def yM (ds:List D):Option D:=zCg zBX zBY ds
def zB6:ROd:=(b2 (gR 2) (zN 0) ixO)
abbrev zDm:List Str:=["turn","dancer"]
def zCI:ROo:=(sq (sIf (bB (b2 (b2 (gR 0) (zN 0) ixO) (λ_=>some (D.str "end")) eqO)) (zAV (λρ=>((zC (λ_=>some (D.str "end")) zP) ρ).map D.tup)) (λρ=>some (Out.nx ρ))) (sq (sIf (bB (b2 (b2 (gR 0) (zN 1) ixO) (gR 1) eqO)) (zAV (λρ=>((zC (λ_=>some (D.str "tells")) (zC (b2 (gR 0) (zN 2) ixO) (zC (b1 (λρ=>((zK 1 (iT (b2 (gR 0) (zN 3) ixO)) (gN 2) (λ_=>some true) zB6) ρ).map D.lst) zGH) zP))) ρ).map D.tup)) (λρ=>some (Out.nx ρ))) (zAV (λρ=>((zC (λ_=>some (D.str "hears")) (zC (b2 (gR 0) (zN 1) ixO) zP)) ρ).map D.tup))))
def qo (ds:List D):Option D:=zCg zDm zCI ds
def qM:ROd:=(b2 (λρ=>((zC (gV 3) (zC (gV 1) zP)) ρ).bind qo) (gR 2) eqO)
abbrev zA2:List Str:=["turns","dancer","asked"]
def qw:Rho->Option zBR:=(sqX (oX (sIf (bB (b2 (b1 (gR 0) zDX) (zN 0) eqO)) (zAV (λρ=>((zC (λ_=>some (D.str "rests")) zP) ρ).map D.tup)) (λρ=>some (Out.nx ρ)))) (sqX (oX (qJ 2 (λρ=>((zC (b2 (gR 0) (zN 0) ixO) (zC (gV 1) zP)) ρ).bind qo))) (sqX (zO9 (zOt (zKJ (b1 (λρ=>((zK 1 (iL (gV 0)) (gN 3) (λ_=>some true) qM) ρ).map D.lst) allO))) (zD0 0 (zC (b1 (gR 1) (fsO "dancer " " can't know which of unlike turns it is at")) zP)) (oX λρ=>some (Out.nx ρ))) (oX (zAV (gV 2))))))
def yE (ds:List D):Option (Except Nat D):=zQS zA2 qw ds
def yZ:ROo:=(zI6 1 (gV 3) (gV 4))
def qD:ROo:=(zc (iT (λρ=>((zC (gV 2) zP) ρ).bind yb)) (gT 2 (gCs (gN 3) (gCs (gN 4) gNl))) yZ)
abbrev zAi:List Str:=["turns","nexts","turn","word","number"]
def zAj:ROo:=(sq (zLe 1) (sq (zc (iL (gV 0)) (gN 2) qD) (zNe 1)))
def yy (ds:List D):Option Sl:=zSn zAi zAj ds
def qp:ROo:=(sIf (bB (b2 (b1 (λρ=>((zC (gV 0) (zC (gV 1) (zC (λρ=>((zC (gV 0) (zC (gV 1) (zC (λρ=>((zC (gV 3) zP) ρ).map D.tup) zP))) ρ).bind qa) zP))) ρ).bind yM) zDX) (zN 0) eqO)) (zNW 2 (gV 3) (λ_=>some (D.bl true))) (λρ=>some (Out.nx ρ)))
abbrev zE6:List Str:=["dance","dancer","found","number"]
def zB7:ROo:=(sq (zNV 2) (sq (zc (iR1 (zC (b1 (b2 (gR 0) (zN 1) ixO) zDX) zP)) (gN 3) qp) (zNe 2)))
def zAC (ds:List D):Option Sl:=zSn zE6 zB7 ds
def zy:ROd:=(vBin 3 (gV 4))
abbrev ya:List Str:=["dancer","some","turns","vain"]
def zq:Rho->Option zBR:=(zO9 (zP6 (bB (b2 (b1 (gR 2) zDX) (zN 0) gtO)) (zKJ (b1 (λρ=>((zK 1 (iT (gV 1)) (gN 4) (λ_=>some true) zy) ρ).map D.lst) anyO))) (zD0 0 (zC (b1 (gR 0) (fsO "dancer " " may wait in vain for its turn")) zP)) (oX λρ=>some (Out.nx ρ)))
def zr (ds:List D) (x:Ob):Option (Except Nat D):=zRs λa=>zLh ya zq a ds x
def zBZ:ROo:=(sq (qJ 12 (λρ=>((zC (gV 0) (zC (gV 1) (zC (b1 (zQe 9 (gV 11)) zGH) zP))) ρ).bind qa)) (sq (sIf (zSp 4 (gV 12)) (sq (zNg 4 (gV 12) (b1 (gR 3) zDX)) (zFn 3 (gV 12))) (λρ=>some (Out.nx ρ))) (zFn 10 (λρ=>((zC (gV 11) (zC (tGet 4 (gV 12)) zP)) ρ).map D.tup))))
def qP:ROb:=(bB (b2 (b1 (gR 5) zDX) (b1 (gR 3) zDX) ltO))
def yR:Rho->Option zBR:=(sqX (oX (qJ 6 (b2 (gR 3) (b1 (gR 5) zDX) ixO))) (sqX (oX (qJ 7 (λρ=>((zC (gV 0) (zC (gV 1) (zC (gV 6) zP))) ρ).bind yM))) (sqX (zLR (zQi 2 (aCo (gV 1) (aCo (gV 6) (aCo (gV 7) zP))) zr)) (sqX (zNd 8 (λρ=>((zC (gV 7) (zC (gV 1) zP)) ρ).bind yE)) (oX (sq (zGM 9 (zC (gV 7) zP) yy) (sq (qG 10 zP) (sq (zc (iL (λρ=>((zLf 9) ρ).map D.lst)) (gN 11) zBZ) (zFn 5 (vIf (bB (b2 (b2 (gR 8) (zN 0) ixO) (λρ=>((zC (λ_=>some (D.str "tells")) (zC (λ_=>some (D.str "hears")) zP)) ρ).map D.tup) inO)) (λρ=>((zC (b2 (gR 8) (zN 0) ixO) (zC (b2 (gR 8) (zN 1) ixO) (zC (b1 (gR 10) zGH) zP))) ρ).map D.tup) (gV 8)))))))))))
abbrev zE7:List Str:=["dance","dancer","vain","known","numbers","part","some","turns","asked","nexts","pairs","word","come_to"]
def zE8:Rho->Option zBR:=(sqX (oX (zGM 2 (zC (gV 0) (zC (gV 1) zP)) zAC)) (sqX (oX (qG 3 (zC (λρ=>((zC (gV 0) (zC (gV 1) (zC (λρ=>((zC (zN 0) zP) ρ).map D.tup) zP))) ρ).bind qa) zP))) (sqX (oX (zJw 4 (b2 (gR 3) (zN 0) ixO) (zN 0))) (sqX (oX (qG 5 zP)) (sqX (zEu 20000000 qP yR) (oX (zAV (b1 (gR 5) zGH))))))))
def zAD (ds:List D):Option (Except Nat D):=zQS zE7 zE8 ds
def isT (p:Pl) (d:Int):Bool:=match p with
 |.fin=>true
 |p=>tp p d
theorem zTB (p:Pl) (d:Int):zBD [plD p,.int d]=some (.bl (isT p d)):=by
 have e:=zIP p d
 cases p with
 |fin=>exists 0,zBD,zC9,plD,at0,isT,beq_self_eq_true,ixO
 |tell a b ch=>
  have x0:ixO (plD (.tell a b ch)) (.int 0)=some (.str "tell"):=by simp only [plD,ixO,at0]
  exists 0,zBD,zC9,x0,isT,zIL,e
def zE9 (ps:List Pl) (S:List Int):List Pl:=S.filterMap λn=>ps[n.toNat]?
def turns (ps:List Pl) (d:Int) (S:List Int):List Pl:=(zE9 ps S).filter λp=>isT p d
theorem zHY (ps:List Pl) (S:List Int):(zE9 ps S).length<=S.length:=List.length_filterMap_le ..
theorem zJM (h0:s0 = .v (dnD m ps)):∀ (S:List Int),Inn ps S->zM (gN 4) (λ_=>some true) zAf (S.map D.int) [s0,s1,s2,s3,.un]=some ((zE9 ps S).map plD)
 | [],_=>rfl
 |n::S,hi=>by
  subst h0
  have hn:=hi n List.mem_cons_self
  obtain ⟨p,hp,e1,e2⟩:=zL8 hn.1 hn.2
  have ih:=zJM (s1:=s1) (s2:=s2) (s3:=s3) (m:=m) rfl S λx hx=>hi x (List.mem_cons_of_mem _ hx)
  have e0:ixO (dnD m ps) (.int 1)=some (.tup (ps.map plD)):=by simp only [dnD,ixO,at1]
  have e5:ixO (.tup (ps.map plD)) (.int n)=some (plD p):=e2
  have ep:zE9 ps (n::S)=p::zE9 ps S:=by simp [zE9,e1]
  rw [ep,List.map_cons,List.map_cons]
  unfold zM
  rw [ih]
  exists zAf,e0,e5,eqO,gN,gT,gCs,gNl,zj,zb,neO
theorem zJ4 (h1:s1 = .v (.int d)) (qs:List Pl):zM (gN 4) zAg zAh (qs.map plD) [s0,s1,s2,s3,.un]=some ((qs.filter λp=>isT p d).map plD):=by
 subst h1
 refine yc (λp=>isT p d) plD qs λp _=>⟨_,rfl,?_,λ_=>?_⟩
 ·have:=zTB p d
  exists 0,zAg,this,ixO
 ·exists 0,zAh,ixO
theorem zMG (d:Int) {S:List Int} (hi:Inn ps S) (hl:S.length<=1000):yM [dnD m ps,.int d,.tup (S.map D.int)]=some (.lst ((turns ps d S).map plD)):=by
 have h1:=zJM (s0:=.v (dnD m ps)) (s1:=.v (.int d)) (s2:=.v (.tup (S.map D.int))) (s3:=.un) (m:=m) rfl S hi
 have h2:=zJ4 (s0:=.v (dnD m ps)) (s1:=.v (.int d)) (s2:=.v (.tup (S.map D.int))) (s3:=.v (.lst ((zE9 ps S).map plD))) (d:=d) rfl (zE9 ps S)
 have l1:S.length<=1000000:=by omega
 have l2:(zE9 ps S).length<=1000000:=by have:=zHY ps S;omega
 unfold yM zBY
 exists h1,h2,l1,l2,turns,ixO,eqO,gT,gCs,gNl,zj,zb,neO
def zHr (p:Pl) (d:Int):D:=match p with
 |.fin=>.tup [.str "end"]
 |.tell a b ch=>if a=d then .tup [.str "tells",.int b,.tup (ch.map λq=>.str q.1)] else .tup [.str "hears",.int a]
theorem zGZ {f:ROd} (ρ:Rho) (ch:List (Str×Int)) (i:Nat) (hf:∀ q:Str×Int,f ((ρ ++ [Sl.un]).set i (.v (chD q)))=some (.str q.1)):zM (gN i) (λ_=>some true) f (ch.map chD) (ρ ++ [Sl.un])=some (ch.map λq=>D.str q.1):=by
 have:=yc (g:=gN i) (p:=λ_=>some true) (f:=f) (emb:=chD) (ρ:=ρ ++ [Sl.un]) (λ_=>true) (λq=>D.str q.1) ch λq _=>⟨_,rfl,rfl,λ_=>hf q⟩
 rw [this,List.filter_eq_self.mpr (by simp)]
theorem zMH (p:Pl) (d:Int) (hl:(chs p).length<=3):qo [plD p,.int d]=some (zHr p d):=by
 cases p with
 |fin=>exists 0,qo,zCI,plD,at0,zHr,beq_self_eq_true,ixO
 |tell a b ch=>
  have x0:ixO (plD (.tell a b ch)) (.int 0)=some (.str "tell"):=by simp only [plD,ixO,at0]
  have x1:ixO (plD (.tell a b ch)) (.int 1)=some (.int a):=by simp only [plD,ixO,at1]
  have x2:ixO (plD (.tell a b ch)) (.int 2)=some (.int b):=by simp only [plD,ixO,at2]
  have x3:ixO (plD (.tell a b ch)) (.int 3)=some (.tup (ch.map chD)):=by simp only [plD,ixO,at3]
  have ea:eqO (.int a) (.int d)=some (.bl (decide (a=d))):=by
   unfold eqO;rw [if_pos (by simp [dep])];unfold eqD;rw [Bool.beq_eq_decide_eq]
  have es:eqO (.str "tell") (.str "end")=some (.bl false):=by
   unfold eqO;rw [if_pos (by simp [dep])];unfold eqD;rw [zIL]
  have l1:ch.length<=1000000:=by simp only [chs] at hl;omega
  have cf:=zGZ (f:=zB6) [.v (plD (.tell a b ch)),.v (.int d)] ch 2 λq=>by
   exists 0,zB6,chD,at0,ixO
  unfold qo zCI
  simp only [List.cons_append,List.nil_append] at cf
  by_cases h:a=d
  ·rw [decide_eq_true h] at ea
   have ak:zHr (.tell a b ch) d = .tup [.str "tells",.int b,.tup (ch.map λq=>.str q.1)]:=by simp [zHr,h]
   rw [ak]
   exists x0,x1,x2,x3,ea,es,cf,l1,gT,gCs,gNl,zj,zb,neO
  ·rw [decide_eq_false h] at ea
   have ak:zHr (.tell a b ch) d = .tup [.str "hears",.int a]:=by simp [zHr,h]
   rw [ak]
   exists x0,x1,x2,x3,ea,es,cf,l1,gT,gCs,gNl,zj,zb,neO
inductive Ask where
 |fin|tells (b:Int) (ws:List Str)|hears (a:Int)
deriving DecidableEq
def ask (p:Pl) (d:Int):Ask:=match p with
 |.fin=>.fin
 |.tell a b ch=>if a=d then .tells b (ch.map (·.1)) else .hears a
def zh:Ask->D
 |.fin=>.tup [.str "end"]
 |.tells b ws=>.tup [.str "tells",.int b,.tup (ws.map D.str)]
 |.hears a=>.tup [.str "hears",.int a]
theorem zIQ (p:Pl) (d:Int):zHr p d=zh (ask p d):=by
 cases p with
 |fin=>rfl
 |tell a b ch=>
  unfold zHr ask
  by_cases h:a=d
  ·simp [h,zh]
  ·simp [h,zh]
theorem zJN:∀ (l r:List Str),eqL (l.map D.str) (r.map D.str)=decide (l=r)
 | [],[]=>by simp [eqL]
 | [],_::_=>by simp [eqL]
 |_::_,[]=>by simp [eqL]
 |a::l,b::r=>by
  rw [List.map_cons,List.map_cons,eqL,zJN l r,eqD]
  by_cases h:a=b
  ·subst h;simp
  ·simp [h]
theorem s_te:((Str.ofString "tells" : Str) == Str.ofString "end")=false:=by decide +kernel
theorem s_et:((Str.ofString "end" : Str) == Str.ofString "tells")=false:=by decide +kernel
theorem s_he:((Str.ofString "hears" : Str) == Str.ofString "end")=false:=by decide +kernel
theorem s_eh:((Str.ofString "end" : Str) == Str.ofString "hears")=false:=by decide +kernel
theorem s_th:((Str.ofString "tells" : Str) == Str.ofString "hears")=false:=by decide +kernel
theorem s_ht:((Str.ofString "hears" : Str) == Str.ofString "tells")=false:=by decide +kernel
theorem zIR (a b:Int):(a == b)=decide (a=b):=by rw [Bool.beq_eq_decide_eq]
theorem zPL (x y:Ask):eqD (zh x) (zh y)=decide (x=y):=by
 cases x<;>cases y<;>simp only [zh,eqD,eqL,beq_self_eq_true,s_te,s_et,s_he,s_eh,s_th,s_ht,zJN,zIR,Bool.and_true,Bool.true_and,Bool.false_and,Bool.and_false,decide_true,decide_false,reduceCtorEq]
 ·rename_i b ws b' ws'
  by_cases h:b=b'<;>by_cases h':ws=ws'<;>simp [h,h']
 ·rename_i a a'
  by_cases h:a=a'<;>simp [h]
theorem zMI (x:Ask):dep (zh x)<=20:=by
 have ds:∀ ws:List Str,depL (ws.map D.str)<=1:=λws=>by
  induction ws with
  |nil=>exact Nat.zero_le _
  |cons w ws ih=>exact Nat.max_le.mpr ⟨Nat.zero_le _,ih⟩
 cases x with
 |fin=>decide
 |tells b ws=>have:=ds ws;simp only [zh,dep,depL];omega
 |hears a=>exact Nat.le_of_ble_eq_true rfl
theorem zMJ (x y:Ask):eqO (zh x) (zh y)=some (.bl (decide (x=y))):=by
 unfold eqO
 rw [if_pos (by have:=zMI x;omega),zPL]
theorem zHZ (l:List Bool):RD.zEs (l.map D.bl)=some l:=by
 induction l with
 |nil=>rfl
 |cons x xs ih=>simp [RD.zEs,ih]
theorem four {d:Int} (h0:0<=d) (h1:d<4):d=0\/d=1\/d=2\/d=3:=by
 obtain ⟨n,rfl⟩:=Int.eq_ofNat_of_zero_le h0
 exact (by decide:∀ n:Nat,n<4->(n:Int)=0\/(n:Int)=1\/(n:Int)=2\/(n:Int)=3) n (Int.ofNat_lt.mp h1)
theorem zTC (h:0<=i/\i<1000000/\(Str.empty++a++((toString i:String):Str)++b).length<=1000000):∃ x,fsO a b (.int i)=some x:=by
 refine ⟨.str (Str.empty++a++((toString i:String):Str)++b),?_⟩
 simp only [fsO]
 rw [if_pos h]
theorem zTD {d:Int} (h0:0<=d) (h1:d<4):∃ x,fsO "dancer " " can't know which of unlike turns it is at" (.int d)=some x:=by
 rcases four h0 h1 with rfl|rfl|rfl|rfl<;>exact zTC (by decide +kernel)
theorem zTE {d:Int} (h0:0<=d) (h1:d<4):∃ x,fsO "dancer " " may wait in vain for its turn" (.int d)=some x:=by
 rcases four h0 h1 with rfl|rfl|rfl|rfl<;>exact zTC (by decide +kernel)
def zJO (ts:List Pl) (d:Int):Except Nat D:=match ts with
 | []=>.ok (.tup [.str "rests"])
 |t::ts=>if (t::ts).all (λu=>decide (ask u d=ask t d)) then .ok (zh (ask t d)) else .error 0
theorem zIS (h0:0<=d) (h1:d<4) (ts:List Pl) (hl:ts.length<=1000) (hc:∀ t∈ts,(chs t).length<=3) :
  yE [.lst (ts.map plD),.int d]=some (zJO ts d):=by
 unfold zJO
 obtain ⟨x,hx⟩:=zTD h0 h1
 cases ts with
 |nil=>
  exists 0,yE,qw,zQS,sqX,oX,ixO
 |cons t ts=>
  have i0:ixO (.lst (plD t::ts.map plD)) (.int 0)=some (plD t):=by simp only [ixO,at0]
  have m0:=zMH t d (hc t List.mem_cons_self)
  rw [zIQ] at m0
  have cf:zM (gN 3) (λ_=>some true) qM ((t::ts).map plD) [.v (.lst (plD t::ts.map plD)),.v (.int d),.v (zh (ask t d)),.un]=some (((t::ts).map λu=>decide (ask u d=ask t d)).map D.bl):=by
   have:=yc (g:=gN 3) (p:=λ_=>some true) (f:=qM) (emb:=plD) (ρ:=[.v (.lst (plD t::ts.map plD)),.v (.int d),.v (zh (ask t d)),.un]) (λ_=>true) (λu=>D.bl (decide (ask u d=ask t d))) (t::ts) λu hu=>by
    refine ⟨_,rfl,rfl,λ_=>?_⟩
    have m1:=zMH u d (hc u hu)
    rw [zIQ] at m1
    exists qM,m1,zMJ,ixO,zM,gN,gT,gCs,gNl,zj,zb,neO
   rw [this,List.filter_eq_self.mpr (by simp),List.map_map]
   rfl
  rw [List.map_cons] at cf
  have e0:eqO (.int ((ts.length:Int)+1)) (.int 0)=some (.bl false):=by
   unfold eqO;rw [if_pos (by simp [dep])];unfold eqD;rw [zIR,decide_eq_false (by omega)]
  have l1:ts.length+1<=1000000:=by simp only [List.length_cons] at hl;omega
  have bb:=zHZ ((t::ts).map λu=>decide (ask u d=ask t d))
  have ba:((t::ts).map λu=>decide (ask u d=ask t d)).all id=(t::ts).all λu=>decide (ask u d=ask t d):=by
   rw [List.all_map];rfl
  generalize ((t::ts).map λu=>decide (ask u d=ask t d))=bs at cf bb ba
  unfold yE qw
  cases ha:(t::ts).all λu=>decide (ask u d=ask t d) with
  |true=>
   rw [ha] at ba
   exists zQS,sqX,oX,zO9,zD0,i0,m0,cf,e0,l1,bb,ba,List.length_map,Int.natCast_add,Int.natCast_one,gT,gCs,gNl,zj,zb,neO
   rw [ha];rfl
  |false=>
   rw [ha] at ba
   exists zQS,sqX,oX,zO9,zD0,i0,m0,cf,e0,l1,bb,ba,List.length_map,Int.natCast_add,Int.natCast_one,hx,gT,gCs,gNl,zj,zb,neO
   rw [ha];rfl
def wds (qs:List (Str×Int)):List Str:=qs.foldl (λacc q=>if q.1∈acc then acc else acc ++ [q.1]) []
def sel (w:Str) (qs:List (Str×Int)):List Int:=(qs.filter λq=>decide (q.1=w)).map (·.2)
def yh (qs:List (Str×Int)):List (Key×List D):=(wds qs).map λw=>(Sum.inr w,(sel w qs).map D.int)
theorem zDA (qs:List (Str×Int)) (q:Str×Int):wds (qs ++ [q])=if q.1∈wds qs then wds qs else wds qs ++ [q.1]:=by
 unfold wds;rw [List.foldl_append,List.foldl_cons,List.foldl_nil]
theorem zGa (w:Str) (qs:List (Str×Int)) (q:Str×Int):sel w (qs ++ [q])=sel w qs++(if q.1=w then [q.2] else []):=by
 unfold sel
 rw [List.filter_append,List.map_append]
 by_cases h:q.1=w<;>simp [h]
theorem zGb {α:Type} {P:List α->Prop} (h0:P []) (h1:∀ l a,P l->P (l ++ [a])) (l:List α):P l:=by
 have:∀ n (l:List α),l.length=n->P l:=by
  intro n
  induction n with
  |zero=>intro l e;rw [List.length_eq_zero_iff.mp e];exact h0
  |succ n ih=>
   intro l e
   obtain ⟨i,x,rfl⟩:=zMA (l:=l) (by omega)
   exact h1 i x (ih i (by simpa using e))
 exact this _ l rfl
theorem zMK (qs:List (Str×Int)):(wds qs).Nodup:=by
 refine zGb (P:=λqs=>(wds qs).Nodup) (by simp [wds]) (λl q ih=>?_) qs
 rw [zDA]
 split
 ·exact ih
 ·rename_i h
  exact List.nodup_append.mpr ⟨ih,by simp,λa ha b hb=>by simp at hb;subst hb;exact λe=>h (e ▸ ha)⟩
theorem zIT (qs:List (Str×Int)):(wds qs).length<=qs.length:=by
 refine zGb (P:=λqs=>(wds qs).length<=qs.length) (by simp [wds]) (λl q ih=>?_) qs
 rw [zDA]
 split<;>simp<;>omega
theorem zML:w∈wds qs↔∃ q∈qs,q.1=w:=by
 refine zGb (P:=λqs=>w∈wds qs↔∃ q∈qs,q.1=w) (by simp [wds]) (λl q ih=>?_) qs
 rw [zDA]
 split
 ·rename_i h
  rw [ih]
  constructor
  ·rintro ⟨x,hx,e⟩;exact ⟨x,by simp [hx],e⟩
  ·rintro ⟨x,hx,e⟩
   rcases List.mem_append.mp hx with hx|hx
   ·exact ⟨x,hx,e⟩
   ·simp at hx;subst hx;exact ih.mp (e ▸ h)
 ·rw [List.mem_append,ih]
  constructor
  ·rintro (⟨x,hx,e⟩|hx)
   ·exact ⟨x,by simp [hx],e⟩
   ·simp at hx;exact ⟨q,by simp,hx.symm⟩
  ·rintro ⟨x,hx,e⟩
   rcases List.mem_append.mp hx with hx|hx
   ·exact .inl ⟨x,hx,e⟩
   ·simp at hx;subst hx;exact .inr (by simp [e])
theorem zIU (w:Str) (qs:List (Str×Int)):(sel w qs).length<=qs.length:=by
 unfold sel;rw [List.length_map];exact List.length_filter_le ..
theorem zEO (g:Str->List D) (w:Str):∀ L:List Str,zDc (L.map λv=>((Sum.inr v:Key),g v)) (.inr w)=if w∈L then some (g w) else none
 | []=>rfl
 |v::L=>by
  have ih:=zEO g w L
  unfold zDc at ih ⊢
  rw [List.map_cons,List.find?_cons]
  by_cases e:v=w
  ·subst e;simp
  ·have e1:¬ (Sum.inr v:Key)=Sum.inr w:=λz=>e (by simpa using z)
   have e2:¬ w=v:=λz=>e z.symm
   simp only [e1,decide_false,List.mem_cons,e2,false_or]
   exact ih
theorem zJP (g:Str->List D) (w:Str) (x:List D):∀ L:List Str,L.Nodup->w∈L->zGt (.inr w) x (L.map λv=>((Sum.inr v:Key),g v))=L.map λv=>((Sum.inr v:Key),if v=w then x else g v)
 | [],_,h=>by simp at h
 |v::L,hn,h=>by
  obtain ⟨h1,h2⟩:=List.nodup_cons.mp hn
  rw [List.map_cons,List.map_cons]
  by_cases e:v=w
  ·subst e
   simp only [zGt,if_true,List.cons.injEq,true_and]
   refine List.map_congr_left λu hu=>?_
   have:u≠v:=λz=>h1 (z ▸ hu)
   simp [this]
  ·have e1:¬ (Sum.inr v:Key)=Sum.inr w:=λz=>e (by simpa using z)
   simp only [zGt,e1,e,if_false,List.cons.injEq,true_and]
   rcases List.mem_cons.mp h with h|h
   ·exact absurd h.symm e
   ·exact zJP g w x L h2 h
theorem zRK {q:Str×Int} (h:q.1∈wds qs):zDc (yh qs) (.inr q.1)=some ((sel q.1 qs).map D.int)/\zGt (.inr q.1) ((sel q.1 qs).map D.int ++ [.int q.2]) (yh qs)=yh (qs ++ [q]):=by
 refine ⟨by unfold yh;rw [zEO (λw=>(sel w qs).map D.int),if_pos h],?_⟩
 unfold yh
 rw [zJP (λw=>(sel w qs).map D.int) _ _ _ (zMK qs) h,zDA,if_pos h]
 refine List.map_congr_left λv _=>?_
 rw [zGa]
 by_cases e:v=q.1
 ·simp [e]
 ·simp [e,Ne.symm e]
theorem zRL {q:Str×Int} (h:q.1∉wds qs):zDc (yh qs) (.inr q.1)=none/\yh qs ++ [(.inr q.1,[.int q.2])]=yh (qs ++ [q]):=by
 refine ⟨by unfold yh;rw [zEO (λw=>(sel w qs).map D.int),if_neg h],?_⟩
 unfold yh
 rw [zDA,if_neg h,List.map_append]
 have s0:sel q.1 qs = []:=by
  unfold sel
  rw [List.map_eq_nil_iff,List.filter_eq_nil_iff]
  intro x hx z
  exact h (zML.mpr ⟨x,hx,by simpa using z⟩)
 congr 1
 ·refine List.map_congr_left λv hv=>?_
  have:q.1≠v:=λz=>h (z ▸ hv)
  rw [zGa,if_neg this,List.append_nil]
 ·simp [zGa,s0]
theorem zRM {qs:List (Str×Int)} {q:Str×Int} (hl:qs.length<=1000):yZ [s0,.o none (.p (.ml (yh qs))),s2,.v (.str q.1),.v (.int q.2)]=some (.nx [s0,.o none (.p (.ml (yh (qs ++ [q])))),s2,.v (.str q.1),.v (.int q.2)]):=by
 have l1:(sel q.1 qs).length<1000000:=by have:=zIU q.1 qs;omega
 have l2:(yh qs).length<1000000:=by have:=zIT qs;simp [yh];omega
 by_cases h:q.1∈wds qs
 ·obtain ⟨h1,h2⟩:=zRK h
  exists 0,yZ,zI6,gML,zGs,h1,h2,l1,ixO
 ·obtain ⟨h1,h2⟩:=zRL h
  exists 0,yZ,zI6,gML,zGs,h1,h2,l2,ixO
theorem zJQ:∀ (rs qs:List (Str×Int)) (s3 s4:Sl),(qs++rs).length<=1000->∃ s3' s4',zb (gT 2 (gCs (gN 3) (gCs (gN 4) gNl))) yZ (rs.map chD) [s0,.o none (.p (.ml (yh qs))),s2,s3,s4]=some (.nx [s0,.o none (.p (.ml (yh (qs++rs)))),s2,s3',s4'])
 | [],qs,s3,s4,_=>⟨s3,s4,by simp [zb]⟩
 |q::rs,qs,s3,s4,hl=>by
  obtain ⟨s3',s4',ih⟩:=zJQ rs (qs ++ [q]) (.v (.str q.1)) (.v (.int q.2)) (by simpa using hl)
  refine ⟨s3',s4',?_⟩
  have hs:=zRM (s0:=s0) (s2:=s2) (qs:=qs) (q:=q) (by simp at hl;omega)
  rw [List.map_cons,qZ (ρ1:=[s0,.o none (.p (.ml (yh qs))),s2,.v (.str q.1),.v (.int q.2)]) (by exists 0,chD,ixO) hs,ih]
  simp
theorem zJR:∀ (ts:List Pl) (qs:List (Str×Int)) (s2 s3 s4:Sl),(qs++ts.flatMap chs).length<=1000->∃ s2' s3' s4',zb (gN 2) qD (ts.map plD) [s0,.o none (.p (.ml (yh qs))),s2,s3,s4]=some (.nx [s0,.o none (.p (.ml (yh (qs++ts.flatMap chs)))),s2',s3',s4'])
 | [],qs,s2,s3,s4,_=>⟨s2,s3,s4,by simp [zb]⟩
 |t::ts,qs,s2,s3,s4,hl=>by
  rw [List.flatMap_cons,<- List.append_assoc] at hl ⊢
  obtain ⟨s3',s4',e1⟩:=zJQ (s0:=s0) (s2:=.v (plD t)) (chs t) qs s3 s4 (by rw [List.length_append] at hl;omega)
  obtain ⟨a,b,c,ih⟩:=zJR (s0:=s0) ts (qs++chs t) (.v (plD t)) s3' s4' hl
  refine ⟨a,b,c,?_⟩
  have hs:qD [s0,.o none (.p (.ml (yh qs))),.v (plD t),s3,s4]=some (.nx [s0,.o none (.p (.ml (yh (qs++chs t)))),.v (plD t),s3',s4']):=by
   unfold qD
   exists zHW,e1,ixO,eqO,zM,zj,neO
  rw [List.map_cons,qZ (ρ1:=[s0,.o none (.p (.ml (yh qs))),.v (plD t),s3,s4]) (by exists 0,ixO) hs,ih]
theorem zRN {ts:List Pl} (hl:(ts.flatMap chs).length<=1000):yy [.lst (ts.map plD)]=some (.o none (.p (.ml (yh (ts.flatMap chs))))):=by
 obtain ⟨a,b,c,e⟩:=zJR (s0:=.v (.lst (ts.map plD))) ts [] .un .un .un (by simpa using hl)
 have k0:yh [] = []:=rfl
 rw [k0,List.nil_append] at e
 exists yy,zAj,zSn,outS,zLe,zNe,Sl.isOwn,e,ixO,eqO,zM,gT,gCs,gNl,zj,neO
def apt (ps:List Pl) (d:Int) (S:List Int):List Int:=zA7 ((run ps d 300 [] S).getD [])
theorem zGc:∀ {l:List Int},y∈zH7 x l↔y=x\/y∈l
 | []=>by simp [zH7]
 |z::l=>by
  simp only [zH7]
  split
  ·simp
  ·simp only [List.mem_cons,zGc (l:=l)]
   constructor
   ·rintro (h|h|h)<;>simp [h]
   ·rintro (h|h|h)<;>simp [h]
theorem zAk:∀ {l:List Int},y∈zA7 l↔y∈l
 | []=>by simp [zA7]
 |x::l=>by simp only [zA7,zGc,zAk (l:=l),List.mem_cons]
theorem zJS:∀ {l:List Int},(zH7 x l).length=l.length+1
 | []=>rfl
 |z::l=>by simp only [zH7];split<;>simp [zJS (l:=l)]
theorem zHa:∀ {l:List Int},(zA7 l).length=l.length
 | []=>rfl
 |x::l=>by simp only [zA7,zJS,zHa (l:=l),List.length_cons]
theorem zMM:∀ {l:List Int},l.Pairwise (· < ·)->x∉l->(zH7 x l).Pairwise (· < ·)
 | [],_,_=>by simp [zH7]
 |z::l,h,n=>by
  obtain ⟨h1,h2⟩:=List.pairwise_cons.mp h
  have nz:x≠z:=λe=>n (by simp [e])
  have nl:x∉l:=λe=>n (by simp [e])
  simp only [zH7]
  split
  ·rename_i q
   have hz:x<z:=by omega
   exact List.pairwise_cons.mpr ⟨λy hy=>by
    rcases List.mem_cons.mp hy with rfl|hy
    ·exact hz
    ·have:=h1 y hy;omega,h⟩
  ·rename_i q
   refine List.pairwise_cons.mpr ⟨λy hy=>?_,zMM h2 nl⟩
   rcases zGc.mp hy with rfl|hy
   ·omega
   ·exact h1 y hy
theorem zJT:∀ {l:List Int},l.Nodup->(zA7 l).Pairwise (· < ·)
 | [],_=>by simp [zA7]
 |x::l,h=>by
  obtain ⟨h1,h2⟩:=List.nodup_cons.mp h
  exact zMM (zJT h2) λhy=>h1 (zAk.mp hy)
theorem zMN (h:z9 m ps) (d:Int):∀ (k:Nat) (found ws f:List Int),Inn ps found->found.Nodup->Inn ps ws->run ps d k found ws=some f->Inn ps f/\f.Nodup
 |0,_,_,_,_,_,_,e=>by simp [run] at e
 |k+1,found,ws,f,hf,hn,hi,e=>by
  unfold run at e
  cases q:ws.getLast? with
  |none=>rw [q] at e;cases e;exact ⟨hf,hn⟩
  |some n=>
   rw [q] at e
   simp only at e
   obtain ⟨ew,hp⟩:=zCH q
   have hn':=hi n (by rw [ew];simp)
   have hi':Inn ps ws.dropLast:=λx hx=>hi x ((List.dropLast_sublist _).subset hx)
   split at e
   ·exact zMN h d k found ws.dropLast f hf hn hi' e
   ·rename_i hm
    refine zMN h d k (found ++ [n]) _ f (λx hx=>?_) ?_ (λx hx=>?_) e
    ·rcases List.mem_append.mp hx with hx|hx
     ·exact hf x hx
     ·simp at hx;subst hx;exact hn'
    ·exact List.nodup_append.mpr ⟨hn,by simp,λa ha b hb=>by simp at hb;subst hb;exact λz=>hm (z ▸ ha)⟩
    ·rcases List.mem_append.mp hx with hx|hx
     ·exact hi' x hx
     ·exact (zGY h d n).1 x hx
structure zCL (ps:List Pl) (K:List Int):Prop where
 inn:Inn ps K
 up:K.Pairwise (· < ·)
 len:K.length<=40
theorem zCS (h:z9 m ps) (d:Int) {S:List Int} (hs:Inn ps S) (hl:S.length<=100):zCL ps (apt ps d S)/\qa [dnD m ps,.int d,.tup (S.map D.int)]=some (.tup ((apt ps d S).map D.int)):=by
 obtain ⟨f,e1,e2,e3⟩:=zEN h d S hs hl
 have ea:apt ps d S=zA7 f:=by simp [apt,e1]
 obtain ⟨i1,i2⟩:=zMN h d 300 [] S f (λ_ hx=>by simp at hx) (by simp) hs e1
 rw [ea]
 exact ⟨⟨λn hn=>i1 n (zAk.mp hn),zJT i2,by rw [zHa];exact e2⟩,e3⟩
theorem zRO:zO5 (tk found) (.inl n) (.bl true)=tk (if n∈found then found else found ++ [n]):=by
 by_cases h:n∈found
 ·rw [if_pos h]
  unfold zO5
  rw [if_pos]
  ·unfold tk
   rw [List.map_map]
   refine List.map_congr_left λx _=>?_
   simp only [Function.comp_def]
   split
   ·rename_i e;simp at e;simp [e]
   ·rfl
  ·simp [tk];exact h
 ·rw [if_neg h];exact zPJ h
theorem zMO (ps:List Pl) (d:Int) (S:List Int):(turns ps d S).length<=S.length:=Nat.le_trans (List.length_filter_le ..) (zHY ps S)
theorem vain_step {ps:List Pl} (h:z9 m ps) (hn:0<=n/\n<(ps.length:Int)) {found:List Int} (hl:found.length<=1000) :
  ∃ found',found'.length<=found.length+1/\(∀ y,y∈found'↔y∈found\/(y=n/\turns ps d (apt ps d [n]) = []))/\qp [.v (dnD m ps),.v (.int d),.m (tk found),.v (.int n)]=some (.nx [.v (dnD m ps),.v (.int d),.m (tk found'),.v (.int n)]):=by
 have hi:Inn ps [n]:=λx hx=>by simp at hx;subst hx;exact hn
 obtain ⟨a1,a2⟩:=zCS h d hi (by simp)
 have a3:=zMG (m:=m) d a1.inn (by have:=a1.len;omega)
 simp only [List.map_cons,List.map_nil] at a2
 have l1:(tk found).length<1000000:=by simp [tk];omega
 have e0:eqO (.int (turns ps d (apt ps d [n])).length) (.int 0)=some (.bl (decide (((turns ps d (apt ps d [n])).length:Int)=0))):=by
  unfold eqO;rw [if_pos (by simp [dep])];unfold eqD;rw [zIR]
 have pt:=zRO (n:=n) (found:=found)
 by_cases c:((turns ps d (apt ps d [n])).length:Int)=0
 ·rw [decide_eq_true c] at e0
  refine ⟨if n∈found then found else found ++ [n],by split<;>simp,λy=>?_,?_⟩
  ·have z:turns ps d (apt ps d [n]) = []:=List.length_eq_zero_iff.mp (by omega)
   simp only [z,and_true]
   split
   ·exact ⟨.inl,λq=>q.elim id λq=>by subst q;assumption⟩
   ·rw [List.mem_append,List.mem_singleton]
  exists qp,a2,a3,e0,zGs,l1,pt,ixO,zM,gN,gT,gCs,gNl,zj,zb,neO
 ·rw [decide_eq_false c] at e0
  refine ⟨found,by omega,λy=>⟨.inl,λq=>q.elim id λz=>absurd (by rw [z.2];rfl) c⟩,?_⟩
  exists qp,a2,a3,e0,zGs,l1,pt,ixO,zM,gN,gT,gCs,gNl,zj,zb,neO
theorem zMP {ps:List Pl} (h:z9 m ps) (d:Int):∀ n:Nat,n<=ps.length->∃ (found:List Int) (s3:Sl),(∀ y:Int,y∈found↔∃ i:Nat,i<n/\y=(i:Int)/\turns ps d (apt ps d [y]) = [])/\zb (gN 3) qp (rng 0 n) [.v (dnD m ps),.v (.int d),.m (tk []),.un]=some (.nx [.v (dnD m ps),.v (.int d),.m (tk found),s3]):=by
 have hp:=h.n1
 have key:∀ (is:List Nat) (found:List Int) (s3:Sl),(∀ i∈is,i<ps.length)->found.length+is.length<=1000->∃ (found':List Int) (s3':Sl),(∀ y:Int,y∈found'↔y∈found\/∃ i∈is,y=(i:Int)/\turns ps d (apt ps d [y]) = [])/\zb (gN 3) qp (is.map λ(i:Nat)=>D.int (0+(i:Int))) [.v (dnD m ps),.v (.int d),.m (tk found),s3]=some (.nx [.v (dnD m ps),.v (.int d),.m (tk found'),s3']):=by
  intro is
  induction is with
  |nil=>exact λfound s3 _ _=>⟨found,s3,λy=>⟨.inl,λq=>q.elim id λ⟨_,z,_⟩=>nomatch z⟩,rfl⟩
  |cons n is ih=>
   intro found s3 hi hl
   have hn:=hi n List.mem_cons_self
   rw [List.length_cons] at hl
   obtain ⟨f',l',new,e'⟩:=vain_step h (d:=d) (n:=(n:Int)) (by omega) (found:=found) (by omega)
   obtain ⟨f2,s2,al2,e2⟩:=ih f' (.v (.int (n:Int))) (λi q=>hi i (List.mem_cons_of_mem _ q)) (by omega)
   refine ⟨f2,s2,λy=>(al2 y).trans ?_,?_⟩
   ·rw [new]
    constructor
    ·rintro ((q|⟨rfl,q⟩)|⟨i,hi,q⟩)
     ·exact .inl q
     ·exact .inr ⟨n,List.mem_cons_self,rfl,q⟩
     ·exact .inr ⟨i,List.mem_cons_of_mem _ hi,q⟩
    ·rintro (q|⟨i,hi,rfl,q⟩)
     ·exact .inl (.inl q)
     ·rcases List.mem_cons.mp hi with rfl|hi
      ·exact .inl (.inr ⟨rfl,q⟩)
      ·exact .inr ⟨i,hi,rfl,q⟩
   ·rw [List.map_cons,Int.zero_add,qZ rfl e',e2]
 intro n hn
 obtain ⟨f,s3,al,e⟩:=key (List.range n) [] .un (λi q=>Nat.lt_of_lt_of_le (List.mem_range.mp q) hn) (by simp;omega)
 exact ⟨f,s3,λy=>(al y).trans ⟨λq=>q.elim (λz=>nomatch z) λ⟨i,hi,q⟩=>⟨i,List.mem_range.mp hi,q⟩,λ⟨i,hi,q⟩=>.inr ⟨i,List.mem_range.mpr hi,q⟩⟩,e⟩
theorem zPM {ps:List Pl} (h:z9 m ps) (d:Int):∃ found,(∀ n:Int,0<=n->n<(ps.length:Int)->(n∈found↔turns ps d (apt ps d [n]) = []))/\zAC [dnD m ps,.int d]=some (.m (tk found)):=by
 have hp:=h.n1
 obtain ⟨found,s3,al,e⟩:=zMP h d ps.length (Nat.le_refl _)
 refine ⟨found,λn n0 n1=>(al n).trans ⟨λ⟨_,_,_,z⟩=>z,λz=>⟨n.toNat,by omega,by omega,z⟩⟩,?_⟩
 have e0:ixO (dnD m ps) (.int 1)=some (.tup (ps.map plD)):=by simp only [dnD,ixO,at1]
 have tk0:tk [] = []:=rfl
 rw [tk0] at e
 have ir:RD.inR (ps.length:Int)=true:=zHU (by omega)
 unfold zAC zSn
 have e1:zB7 [.v (dnD m ps),.v (.int d),.un,.un]=some (.ro (.m (tk found))):=by
  unfold zB7
  refine (zf (ρ':=[.v (dnD m ps),.v (.int d),.m [],.un]) rfl).trans ((zf ((sFor_eq (zHV (n:=ps.length) ?_ (by omega))).trans e)).trans rfl)
  simp only [zC,b1,b2,zNL,e0,zDX,List.getElem?_cons_zero,Option.bind_some,List.length_map,Option.map_some]
 show (zB7 [.v (dnD m ps),.v (.int d),.un,.un]).bind outS=_
 rw [e1]
 rfl
theorem zOJ (h0:0<=d) (h1:d<4) (K:List Int) (ts:List Pl) (found:List Int) (hl:K.length<=1000):∃ r,((r = .ok .non/\(ts = []\/∀ n∈K,n∉found))\/(r = .error 0/\ts≠[]/\∃ n∈K,n∈found))/\zr [.int d,.tup (K.map D.int),.lst (ts.map plD)] (.p (.m (tk found)))=some r:=by
 obtain ⟨x,hx⟩:=zTE h0 h1
 have cf:∀ a:Addr,zM (gN 4) (λ_=>some true) zy (K.map D.int) [.v (.int d),.v (.tup (K.map D.int)),.v (.lst (ts.map plD)),.b a (.p (.m (tk found))),.un]=some ((K.map λn=>decide (n∈found)).map D.bl):=λa=>by
  have:=yc (g:=gN 4) (p:=λ_=>some true) (f:=zy) (emb:=D.int) (ρ:=[.v (.int d),.v (.tup (K.map D.int)),.v (.lst (ts.map plD)),.b a (.p (.m (tk found))),.un]) (λ_=>true) (λn=>D.bl (decide (n∈found))) K λn _=>by
   refine ⟨_,rfl,rfl,λ_=>?_⟩
   have gt:=zMF n found
   exists 0,zy,vBin,zDd,zGs,gt,ixO
  rw [this,List.filter_eq_self.mpr (by simp),List.map_map]
  rfl
 have bb:=zHZ (K.map λn=>decide (n∈found))
 have kf:(K.map λn=>decide (n∈found)).any id=false->∀ n∈K,n∉found:=λq n hn hf=>by
  rw [List.any_eq_false] at q
  exact q _ (List.mem_map_of_mem hn) (decide_eq_true hf)
 have kt:(K.map λn=>decide (n∈found)).any id=true->∃ n∈K,n∈found:=λq=>by
  obtain ⟨b,hb,e⟩:=List.any_eq_true.mp q
  obtain ⟨n,hn,rfl⟩:=List.mem_map.mp hb
  exact ⟨n,hn,of_decide_eq_true e⟩
 generalize (K.map λn=>decide (n∈found))=bs at cf bb kf kt
 have l1:K.length<=1000000:=by omega
 by_cases c:ts.length=0
 ·refine ⟨.ok .non,.inl ⟨rfl,.inl (List.length_eq_zero_iff.mp c)⟩,zGP λa=>?_⟩
  exists zLh,zq,zO9,oX,zD0,c,ixO,eqO,gT,gCs,gNl,zj,zb,neO
 ·have c':(0:Int)<(ts.length:Int):=by omega
  cases hb:bs.any id with
  |true=>
   refine ⟨.error 0,.inr ⟨rfl,λz=>c (by rw [z];rfl),kt hb⟩,zGP λa=>?_⟩
   exists zLh,zq,zO9,oX,zD0,c',cf,l1,bb,hb,hx,ixO,eqO,gT,gCs,gNl,zj,zb,neO
  |false=>
   refine ⟨.ok .non,.inl ⟨rfl,.inr (kf hb)⟩,zGP λa=>?_⟩
   exists zLh,zq,zO9,oX,zD0,c',cf,l1,bb,hb,hx,ixO,eqO,gT,gCs,gNl,zj,zb,neO
def zKO {α:Type}:List α->List (List α)
 | []=>[[]]
 |x::l=>zKO l++(zKO l).map (x :: ·)
theorem zJU {α:Type}:∀ l:List α,(zKO l).length=2 ^ l.length
 | []=>rfl
 |x::l=>by rw [zKO,List.length_append,List.length_map,zJU l,List.length_cons,Nat.pow_succ];omega
theorem zJV {α:Type} {s l:List α} (h:s.Sublist l):s∈zKO l:=by
 induction h with
 |slnil=>simp [zKO]
 |cons a _ ih=>exact List.mem_append.mpr (.inl ih)
 |cons_cons a _ ih=>exact List.mem_append.mpr (.inr (List.mem_map.mpr ⟨_,ih,rfl⟩))
theorem zDB {α:Type} [DecidableEq α]:∀ {l L:List α},l.Nodup->(∀ x∈l,x∈L)->l.length<=L.length
 | [],_,_,_=>Nat.zero_le _
 |x::l,L,h,k=>by
  obtain ⟨h1,h2⟩:=List.nodup_cons.mp h
  have hx:=k x List.mem_cons_self
  have ih:=zDB (l:=l) (L:=L.erase x) h2 λy hy=>(List.mem_erase_of_ne (λ(e:y=x)=>h1 (e ▸ hy))).mpr (k y (List.mem_cons_of_mem _ hy))
  rw [List.length_erase_of_mem hx] at ih
  have:0<L.length:=List.length_pos_of_mem hx
  rw [List.length_cons];omega
def tg1 (e h:Int):Pl->List Int
 |.fin=>[]
 |.tell a b ch=>if a=e/\b=h then ch.map (·.2) else []
def tgt (ps:List Pl) (e h:Int):List Int:=ps.flatMap (tg1 e h)
theorem zFA (e h:Int):∀ ps:List Pl,(tgt ps e h).length=zCk e h (ps.map plD)
 | []=>rfl
 |p::ps=>by
  have ih:=zFA e h ps
  unfold tgt at ih ⊢
  rw [List.flatMap_cons,List.length_append,ih,List.map_cons,zCk]
  congr 1
  cases p with
  |fin=>rfl
  |tell a b ch=>
   refine Eq.trans ?_ zJI.symm
   simp only [tg1,pr]
   split<;>simp
def zMQ (ps:List Pl) (d:Int):List (List Int):=apt ps d [0] :: [0,1,2,3].flatMap λ(e:Int)=>(zKO (tgt ps e d)).map (apt ps d)++(zKO (tgt ps d e)).map (apt ps d)
def Few (ps:List Pl):Prop:=∀ e h,zCk e h (ps.map plD)<=20
theorem zGd (hf:Few ps) (d:Int):(zMQ ps d).length<=8388609:=by
 have p:∀ e h,(zKO (tgt ps e h)).length<=1048576:=λe h=>by
  rw [zJU,zFA]
  exact Nat.le_trans (Nat.pow_le_pow_right (by decide) (hf e h)) (by decide)
 have a0:=p 0 d;have a1:=p 1 d;have a2:=p 2 d;have a3:=p 3 d
 have b0:=p d 0;have b1:=p d 1;have b2:=p d 2;have b3:=p d 3
 simp only [zMQ,List.flatMap_cons,List.flatMap_nil,List.length_cons,List.length_append,List.length_map,List.length_nil]
 omega
theorem zOK {α β:Type} {g:α->List β} {s l:List α} (h:s.Sublist l):(s.flatMap g).Sublist (l.flatMap g):=by
 induction h with
 |slnil=>simp
 |cons a _ ih=>rw [List.flatMap_cons];exact ih.trans (List.sublist_append_right ..)
 |cons_cons a _ ih=>rw [List.flatMap_cons,List.flatMap_cons];exact (List.Sublist.refl _).append ih
theorem zJW {α β:Type} {f g:α->Option β}:∀ {l:List α},(∀ x∈l,f x=g x)->l.filterMap f=l.filterMap g
 | [],_=>rfl
 |x::l,h=>by rw [List.filterMap_cons,List.filterMap_cons,h x List.mem_cons_self,zJW λy hy=>h y (List.mem_cons_of_mem _ hy)]
theorem zHb:∀ (ps:List Pl) (off:Int) (K:List Int),K.Pairwise (· < ·)->(∀ n∈K,off<=n/\n<off+(ps.length:Int))->(K.filterMap λn=>ps[(n-off).toNat]?).Sublist ps
 |[],off,K,_,h=>by
  cases K with
  |nil=>simp
  |cons n K=>have:=h n List.mem_cons_self;simp at this;omega
 |p::ps,off,K,hp,h=>by
  have up:∀ K:List Int,K.Pairwise (· < ·)->(∀ n∈K,off<n/\n<off+((p::ps).length:Int))->(K.filterMap λn=>(p::ps)[(n-off).toNat]?).Sublist ps:=λK hp h=>by
   have:=zHb ps (off+1) K hp λn hn=>by have:=h n hn;simp only [List.length_cons] at this;omega
   rw [show (K.filterMap λn=>(p::ps)[(n-off).toNat]?)=K.filterMap λn=>ps[(n-(off+1)).toNat]? from zJW λn hn=>by
    have:=h n hn
    rw [show (n-off).toNat=(n-(off+1)).toNat+1 by omega,List.getElem?_cons_succ]]
   exact this
  cases K with
  |nil=>simp
  |cons n K=>
   obtain ⟨h1,h2⟩:=List.pairwise_cons.mp hp
   have hn:=h n List.mem_cons_self
   by_cases e:n=off
   ·subst e
    rw [List.filterMap_cons]
    simp only [Int.sub_self,Int.toNat_zero,List.getElem?_cons_zero]
    exact (up K h2 λx hx=>⟨h1 x hx,(h x (List.mem_cons_of_mem _ hx)).2⟩).cons_cons p
   ·refine (up (n::K) hp λx hx=>⟨?_,(h x hx).2⟩).cons p
    rcases List.mem_cons.mp hx with rfl|hx
    ·omega
    ·have:=h1 x hx;omega
theorem zMR (h:zCL ps K) (d:Int):(turns ps d K).Sublist ps:=by
 have:=zHb ps 0 K h.up λn hn=>by have:=h.inn n hn;omega
 simp only [Int.sub_zero] at this
 exact (List.filter_sublist).trans this
def zBa (ps:List Pl) (d:Int) (K:List Int):List (Str×Int):=(turns ps d K).flatMap chs
def zA3 (ps:List Pl) (d:Int) (K:List Int) (w:Str):List Int:=apt ps d (sel w (zBa ps d K))
def zBE (ps:List Pl) (d:Int) (K:List Int):Bool:=match turns ps d K with
 | []=>true
 |t::ts=>(t::ts).all λu=>decide (ask u d=ask t d)
theorem zPN (h:zCL ps K) (ha:zBE ps d K=true):zBa ps d K = []\/∃ e h,(e=d\/h=d)/\(∃ t∈turns ps d K,∃ ch,t = .tell e h ch)/\((zBa ps d K).map (·.2)).Sublist (tgt ps e h):=by
 have sub:=zMR h d
 have tt:∀ t∈turns ps d K,isT t d=true:=λt ht=>(List.mem_filter.mp ht).2
 unfold zBa
 unfold zBE at ha
 cases e:turns ps d K with
 |nil=>left;rfl
 |cons t ts=>
  rw [e] at ha sub tt
  simp only [List.all_eq_true,decide_eq_true_eq] at ha
  have fin:∀ e h,(∀ u∈t::ts,∃ ch,u = .tell e h ch)->((((t::ts).flatMap chs)).map (·.2)).Sublist (tgt ps e h):=λe h k=>by
   have e1:((t::ts).flatMap chs).map (·.2)=(t::ts).flatMap (tg1 e h):=by
    rw [List.map_flatMap]
    have cg:∀ (l:List Pl),(∀ u∈l,∃ ch,u = .tell e h ch)->l.flatMap (λa=>(chs a).map (·.2))=l.flatMap (tg1 e h):=by
     intro l
     induction l with
     |nil=>intro _;rfl
     |cons u l ih=>
      intro k
      obtain ⟨ch,rfl⟩:=k u List.mem_cons_self
      rw [List.flatMap_cons,List.flatMap_cons,ih λv hv=>k v (List.mem_cons_of_mem _ hv)]
      simp [chs,tg1]
    exact cg _ k
   rw [e1]
   exact zOK sub
  cases t with
  |fin=>
   left
   rw [List.flatMap_eq_nil_iff]
   intro u hu
   have:=ha u hu
   cases u with
   |fin=>rfl
   |tell a b ch=>simp only [ask] at this;split at this<;>cases this
  |tell a b ch=>
   right
   by_cases c:a=d
   ·subst c
    refine ⟨a,b,.inl rfl,⟨_,List.mem_cons_self,ch,rfl⟩,fin a b λu hu=>?_⟩
    have:=ha u hu
    cases u with
    |fin=>simp [ask] at this
    |tell a' b' ch'=>
     simp only [ask,if_true] at this
     split at this
     ·rename_i z;subst z;injection this with this _;subst this;exact ⟨_,rfl⟩
     ·cases this
   ·have hb:b=d:=by
     have:=tt _ List.mem_cons_self
     simp only [isT,tp,Bool.or_eq_true,decide_eq_true_eq] at this
     rcases this with z|z
     ·exact absurd z.symm c
     ·exact z.symm
    subst hb
    refine ⟨a,b,.inr rfl,⟨_,List.mem_cons_self,ch,rfl⟩,fin a b λu hu=>?_⟩
    have:=ha u hu
    have t2:=tt u hu
    cases u with
    |fin=>simp [ask,c] at this
    |tell a' b' ch'=>
     simp only [ask,c,if_false] at this
     split at this
     ·cases this
     ·rename_i z
      cases this
      simp only [isT,tp,Bool.or_eq_true,decide_eq_true_eq] at t2
      rcases t2 with q|q
      ·exact absurd q.symm z
      ·subst q;exact ⟨_,rfl⟩
theorem zRP (w:Str) (qs:List (Str×Int)):(sel w qs).Sublist (qs.map (·.2)):=List.Sublist.map _ (List.filter_sublist)
theorem zGe {ps:List Pl} (h:z9 m ps) (ht:t∈turns ps d K):okP m (λn=>0<=n/\n<(ps.length:Int)) t:=by
 have:=(List.mem_filter.mp ht).1
 obtain ⟨n,_,e⟩:=List.mem_filterMap.mp this
 exact h.ok t (List.mem_of_getElem? e)
theorem qs_in {ps:List Pl} (h:z9 m ps) {q:Str×Int} (hq:q∈zBa ps d K):(0<=q.2/\q.2<(ps.length:Int))/\okW q.1:=by
 obtain ⟨t,ht,hc⟩:=List.mem_flatMap.mp hq
 have ok:=zGe h ht
 refine ⟨ok.next hc,?_⟩
 cases t with
 |fin=>simp [chs] at hc
 |tell a b ch=>exact ok.wd q hc
theorem zIV (h:z9 m ps) (hf:Few ps) (hd:0<=d/\d<m) (hk:zCL ps K) (ha:zBE ps d K=true) (w:Str) (hw:w∈wds (zBa ps d K)) :
  zA3 ps d K w∈zMQ ps d/\Inn ps (sel w (zBa ps d K))/\(sel w (zBa ps d K)).length<=20:=by
 have inn:Inn ps (sel w (zBa ps d K)):=λn hn=>by
  obtain ⟨q,hq,rfl⟩:=List.mem_map.mp hn
  exact (qs_in h (List.mem_filter.mp hq).1).1
 obtain ⟨q,hq,_⟩:=zML.mp hw
 rcases zPN hk ha with z|⟨e,e',hdd,⟨t,ht,ch,rfl⟩,s⟩
 ·rw [z] at hq;simp at hq
 ·have s':=(zRP w (zBa ps d K)).trans s
  have ok:okT m _ e e' ch:=zGe h ht
  have hm:=h.m1
  refine ⟨?_,inn,Nat.le_trans s'.length_le (by rw [zFA];exact hf _ _)⟩
  refine List.mem_cons_of_mem _ (List.mem_flatMap.mpr ?_)
  have e0:=ok.a0;have e1:=ok.a1;have e2:=ok.b0;have e3:=ok.b1
  rcases hdd with rfl|rfl
  ·exact ⟨e',by rcases four e2 (by omega) with z|z|z|z<;>simp [z],List.mem_append.mpr (.inr (List.mem_map.mpr ⟨_,zJV s',rfl⟩))⟩
  ·exact ⟨e,by rcases four e0 (by omega) with z|z|z|z<;>simp [z],List.mem_append.mpr (.inl (List.mem_map.mpr ⟨_,zJV s',rfl⟩))⟩
theorem zPO (hf:Few ps) (hk:zCL ps K) (ha:zBE ps d K=true):(zBa ps d K).length<=20:=by
 rcases zPN hk ha with z|⟨e,e',_,_,s⟩
 ·rw [z];simp
 ·have:=s.length_le
  rw [List.length_map,zFA] at this
  exact Nat.le_trans this (hf _ _)
def zv (K:List Int):D:=.tup (K.map D.int)
def ixOf (Ks:List (List Int)) (K:List Int):Nat:=match Ks with
 | []=>0
 |K'::r=>if K'=K then 0 else ixOf r K+1
theorem zRQ:∀ {Ks:List (List Int)},K∈Ks->ixOf Ks K<Ks.length
 | [],h=>by simp at h
 |K'::r,h=>by
  unfold ixOf
  split
  ·simp
  ·rename_i n
   rcases List.mem_cons.mp h with e|h
   ·exact absurd e.symm n
   ·have:=zRQ h;rw [List.length_cons];omega
theorem zEP (r:List (List Int)):∀ {Ks:List (List Int)},K∈Ks->ixOf (Ks++r) K=ixOf Ks K
 | [],h=>by simp at h
 |K'::Ks,h=>by
  rw [List.cons_append]
  unfold ixOf
  split
  ·rfl
  ·rename_i n
   rcases List.mem_cons.mp h with e|h
   ·exact absurd e.symm n
   ·rw [zEP r h]
def zDn (i:Nat):List (List Int)->List (List Key×D)
 | []=>[]
 |K::r=>(K.map Sum.inl,.int i)::zDn (i+1) r
abbrev yH (Ks:List (List Int)):List (List Key×D):=zDn 0 Ks
theorem zMS {K K':List Int}:K.map (Sum.inl:Int->Key)=K'.map Sum.inl↔K=K':=by
 constructor
 ·intro h
  induction K generalizing K' with
  |nil=>cases K' with
   |nil=>rfl
   |cons=>simp at h
  |cons a K ih=>cases K' with
   |nil=>simp at h
   |cons b K'=>simp only [List.map_cons,List.cons.injEq,Sum.inl.injEq] at h;rw [h.1,ih h.2]
 ·rintro rfl;rfl
theorem zGf {K:List Int}:∀ (Ks:List (List Int)) (i:Nat),zDc (zDn i Ks) (K.map Sum.inl)=if K∈Ks then some (.int ((i+ixOf Ks K:Nat):Int)) else none
 | [],i=>rfl
 |K'::r,i=>by
  have ih:=zGf (K:=K) r (i+1)
  unfold zDc at ih ⊢
  rw [zDn,List.find?_cons]
  by_cases e:K'=K
  ·subst e;simp [ixOf]
  ·have e1:¬ (K'.map (Sum.inl:Int->Key))=K.map Sum.inl:=λz=>e (zMS.mp z)
   have e2:¬ K=K':=λz=>e z.symm
   simp only [e1,decide_false,List.mem_cons,e2,false_or,ixOf,e,if_false]
   rw [ih]
   split
   ·congr 3;omega
   ·rfl
theorem zOL {K:List Int} {Ks:List (List Int)} (h:K∉Ks):zQX (yH Ks) (K.map Sum.inl) (.int (Ks.length:Int))=yH (Ks ++ [K]):=by
 have g:∀ (Ks:List (List Int)) (i:Nat),K∉Ks->((zDn i Ks).any λkv=>decide (kv.1=K.map Sum.inl))=false/\zDn i Ks ++ [(K.map Sum.inl,.int ((i+Ks.length:Nat):Int))]=zDn i (Ks ++ [K]):=by
  intro Ks
  induction Ks with
  |nil=>intro i _;exact ⟨rfl,rfl⟩
  |cons K' r ih=>
   intro i h
   obtain ⟨h1,h2⟩:=ih (i+1) λz=>h (List.mem_cons_of_mem _ z)
   refine ⟨?_,?_⟩
   ·rw [zDn,List.any_cons,h1,Bool.or_false]
    exact decide_eq_false λz=>h (by rw [zMS.mp z];simp)
   ·rw [zDn,List.cons_append,List.cons_append,zDn,<- h2,List.length_cons,show i+(r.length+1)=i+1+r.length by omega]
 obtain ⟨h1,h2⟩:=g Ks 0 h
 unfold zQX
 rw [h1,if_neg (by simp)]
 rw [Nat.zero_add] at h2
 exact h2
theorem zJX:∀ (Ks:List (List Int)) (i:Nat),(zDn i Ks).length=Ks.length
 | [],_=>rfl
 |K::r,i=>by rw [zDn,List.length_cons,zJX r,List.length_cons]
theorem zMT (K:List Int):zRr (zv K)=some (K.map Sum.inl):=by
 have:∀ K:List Int,zLW (K.map D.int)=some (K.map Sum.inl):=by
  intro K
  induction K with
  |nil=>rfl
  |cons n K ih=>simp [zLW,zGs,ih]
 exact this K
theorem zPP (w:Str) (n:Int):D.tup [.str w,.int n]=chD (w,n):=rfl
def zA6 (Ks:List (List Int)) (N:List Int):List (List Int):=if N∈Ks then Ks else Ks ++ [N]
theorem zEQ (Ks:List (List Int)) (N:List Int):N∈zA6 Ks N:=by unfold zA6;split<;>simp [*]
theorem zJY (Ks:List (List Int)) (N:List Int):∃ r,zA6 Ks N=Ks++r:=by
 unfold zA6;split
 ·exact ⟨[],by simp⟩
 ·exact ⟨[N],rfl⟩
theorem zMU {Ks:List (List Int)} (h:Ks.Nodup):(zA6 Ks N).Nodup:=by
 unfold zA6;split
 ·exact h
 ·rename_i n
  exact List.nodup_append.mpr ⟨h,by simp,λa ha b hb=>by simp at hb;subst hb;exact λz=>n (z ▸ ha)⟩
theorem zMV {Ks:List (List Int)} {qs prs:List (Str×Int)} (hw:w∈wds qs) (ha:qa [dnD m ps,.int d,.tup ((sel w qs).map D.int)]=some (zv (apt ps d (sel w qs)))) (hk:Ks.length<16000000) (hp:prs.length<16000000) :
  zBZ [.v (dnD m ps),.v (.int d),s2,.l (Ks.map zv),.o none (.p (.t (yH Ks))),s5,s6,s7,s8,.o none (.p (.ml (yh qs))),.l (prs.map chD),.v (.str w),s12] =
   some (.nx [.v (dnD m ps),.v (.int d),s2,.l ((zA6 Ks (apt ps d (sel w qs))).map zv),.o none (.p (.t (yH (zA6 Ks (apt ps d (sel w qs)))))),s5,s6,s7,s8,.o none (.p (.ml (yh qs))),.l ((prs ++ [(w,(ixOf (zA6 Ks (apt ps d (sel w qs))) (apt ps d (sel w qs)):Int))]).map chD),.v (.str w),.v (zv (apt ps d (sel w qs)))]):=by
 have g:zDc (yh qs) (.inr w)=some ((sel w qs).map D.int):=by unfold yh;rw [zEO (λw=>(sel w qs).map D.int),if_pos hw]
 generalize apt ps d (sel w qs)=N at *
 have kN:=zMT N
 have ng:=zGf (K:=N) Ks 0
 have ng2:=zGf (K:=N) (zA6 Ks N) 0
 rw [if_pos (zEQ Ks N),Nat.zero_add] at ng2
 have nl:=zJX Ks 0
 unfold zBZ
 refine (zf (ρ':=[.v (dnD m ps),.v (.int d),s2,.l (Ks.map zv),.o none (.p (.t (yH Ks))),s5,s6,s7,s8,.o none (.p (.ml (yh qs))),.l (prs.map chD),.v (.str w),.v (zv N)]) ?_).trans ?_
 ·exists 0,zQe,gML,zGs,g,ha,ixO
 ·have s1:(sIf (zSp 4 (gV 12)) (sq (zNg 4 (gV 12) (b1 (gR 3) zDX)) (zFn 3 (gV 12))) (λρ=>some (Out.nx ρ))) [.v (dnD m ps),.v (.int d),s2,.l (Ks.map zv),.o none (.p (.t (yH Ks))),s5,s6,s7,s8,.o none (.p (.ml (yh qs))),.l (prs.map chD),.v (.str w),.v (zv N)] =
   some (.nx [.v (dnD m ps),.v (.int d),s2,.l ((zA6 Ks N).map zv),.o none (.p (.t (yH (zA6 Ks N)))),s5,s6,s7,s8,.o none (.p (.ml (yh qs))),.l (prs.map chD),.v (.str w),.v (zv N)]):=by
   by_cases c:N∈Ks
   ·rw [if_pos c] at ng
    have ea:zA6 Ks N=Ks:=by simp [zA6,c]
    rw [ea]
    exists 0,zSp,gT',kN,ng,Option.isSome_some,ixO
   ·rw [if_neg c] at ng
    have ea:zA6 Ks N=Ks ++ [N]:=by simp [zA6,c]
    have np:=zOL c
    rw [ea]
    have hk2:(zDn 0 Ks).length<16000000:=by rw [nl];exact hk
    exists 0,zSp,gT',zNg,kN,ng,Option.isSome_none,hk2,hk,np,List.map_append,ixO
  refine (zf s1).trans ?_
  exists 0,tGet,gT',kN,ng2,hp,List.map_append,zPP,ixO
theorem zFy (B:Nat) (hB:B<12000000) (pl:List (List Int)) (hpl:pl.length<=B) (ha:∀ w∈wds qs,apt ps d (sel w qs)∈pl/\qa [dnD m ps,.int d,.tup ((sel w qs).map D.int)]=some (zv (apt ps d (sel w qs)))) :
  ∀ (ws:List Str) (Ks:List (List Int)) (prs:List (Str×Int)) (s11 s12:Sl),(∀ w∈ws,w∈wds qs)->Ks.Nodup->(∀ K∈Ks,K∈pl)->prs.length+ws.length<16000000 ->
   ∃ r s11' s12',Ks++r=ws.foldl (λKs w=>zA6 Ks (apt ps d (sel w qs))) Ks/\(Ks++r).Nodup/\(∀ K∈Ks++r,K∈pl)/\(∀ w∈ws,apt ps d (sel w qs)∈Ks++r) /\
    zb (gN 11) zBZ (ws.map D.str) [.v (dnD m ps),.v (.int d),s2,.l (Ks.map zv),.o none (.p (.t (yH Ks))),s5,s6,s7,s8,.o none (.p (.ml (yh qs))),.l (prs.map chD),s11,s12] =
     some (.nx [.v (dnD m ps),.v (.int d),s2,.l ((Ks++r).map zv),.o none (.p (.t (yH (Ks++r)))),s5,s6,s7,s8,.o none (.p (.ml (yh qs))),.l ((prs++ws.map λw=>(w,(ixOf (Ks++r) (apt ps d (sel w qs)):Int))).map chD),s11',s12'])
 | [],Ks,prs,s11,s12,_,hn,hs,_=>⟨[],s11,s12,List.append_nil _,by simpa using hn,by simpa using hs,by simp,by simp [zb]⟩
 |w::ws,Ks,prs,s11,s12,hw,hn,hs,hl=>by
  have hw0:=hw w List.mem_cons_self
  obtain ⟨a1,a2⟩:=ha w hw0
  rw [List.length_cons] at hl
  have kl:=zDB hn hs
  obtain ⟨r1,er1⟩:=zJY Ks (apt ps d (sel w qs))
  have st:=zMV (s2:=s2) (s5:=s5) (s6:=s6) (s7:=s7) (s8:=s8) (s12:=s12) (Ks:=Ks) (prs:=prs) hw0 a2 (by omega) (by omega)
  have hn1:=zMU (N:=apt ps d (sel w qs)) hn
  have hm1:=zEQ Ks (apt ps d (sel w qs))
  have hs1:∀ K∈zA6 Ks (apt ps d (sel w qs)),K∈pl:=λK hK=>by
   unfold zA6 at hK
   split at hK
   ·exact hs K hK
   ·rcases List.mem_append.mp hK with hK|hK
    ·exact hs K hK
    ·simp at hK;subst hK;exact a1
  obtain ⟨r,s11',s12',i0,i1,i2,i3,i4⟩:=zFy B hB pl hpl ha ws (zA6 Ks (apt ps d (sel w qs))) (prs ++ [(w,(ixOf (zA6 Ks (apt ps d (sel w qs))) (apt ps d (sel w qs)):Int))]) (.v (.str w)) (.v (zv (apt ps d (sel w qs)))) (λv hv=>hw v (List.mem_cons_of_mem _ hv)) hn1 hs1 (by simp;omega)
  have ix:=zEP r hm1
  rw [<- List.foldl_cons (f:=λKs w=>zA6 Ks (apt ps d (sel w qs)))] at i0
  rw [er1] at st i0 i1 i2 i3 i4 ix hm1
  rw [List.append_assoc] at i0 i1 i2 i3
  refine ⟨r1++r,s11',s12',i0,i1,i2,λv hv=>?_,?_⟩
  ·rcases List.mem_cons.mp hv with rfl|hv
   ·rw [<- List.append_assoc];exact List.mem_append.mpr (.inl hm1)
   ·exact i3 v hv
  ·rw [List.map_cons,qZ (ρ1:=[.v (dnD m ps),.v (.int d),s2,.l (Ks.map zv),.o none (.p (.t (yH Ks))),s5,s6,s7,s8,.o none (.p (.ml (yh qs))),.l (prs.map chD),.v (.str w),s12]) rfl st,i4,<- List.append_assoc,<- ix]
   simp
theorem zDC {F G:Rho->Option zBR} (h:F ρ=some (.o (.nx ρ'))):sqX F G ρ=G ρ':=by simp only [sqX,h,Option.bind_some]
theorem zMW {F G:Rho->Option zBR} (h:F ρ=some (.ex c)):sqX F G ρ=some (.ex c):=by simp only [sqX,h,Option.bind_some]
theorem zIW {F:ROo} (h:F ρ=some o):oX F ρ=some (.o o):=by simp only [oX,h,Option.map_some]
inductive St where
 |fin|rests|act (t:Bool) (o:Int) (prs:List (Str×Int))
def stD:St->D
 |.fin=>.tup [.str "end"]
 |.rests=>.tup [.str "rests"]
 |.act t o prs=>.tup [.str (if t then "tells" else "hears"),.int o,.tup (prs.map chD)]
def yo (ps:List Pl) (d:Int) (K:List Int):List Str:=zA8 (wds (zBa ps d K))
def zFY (ps:List Pl) (d:Int) (Ks:List (List Int)) (K:List Int):List (Str×Int):=(yo ps d K).map λw=>(w,(ixOf Ks (zA3 ps d K w):Int))
def zFz (ps:List Pl) (d:Int) (Ks:List (List Int)) (K:List Int):St:=match turns ps d K with
 | []=>.rests
 |t::_=>match ask t d with
  |.fin=>.fin
  |.tells b _=>.act true b (zFY ps d Ks K)
  |.hears a=>.act false a (zFY ps d Ks K)
def zJZ (ps:List Pl) (d:Int) (Ks:List (List Int)) (K:List Int):Prop:=∀ w∈yo ps d K,zA3 ps d K w∈Ks
theorem zOM (h:zJZ ps d Ks K) (r:List (List Int)):zFz ps d (Ks++r) K=zFz ps d Ks K:=by
 have:zFY ps d (Ks++r) K=zFY ps d Ks K:=List.map_congr_left λw hw=>by rw [zEP r (h w hw)]
 unfold zFz
 rw [this]
theorem zMX (x:Ask):inO (match x with | .fin=>D.str "end" | .tells _ _=>D.str "tells" | .hears _=>D.str "hears") (.tup [.str "tells",.str "hears"])=some (.bl (match x with | .fin=>false|_=>true)):=by
 cases x<;>(unfold inO;rw [if_pos (by simp [dep])];simp only [List.any_cons,List.any_nil,eqD,beq_self_eq_true,s_te,s_he,s_th,Bool.or_false,Bool.or_true,Bool.true_or])
theorem zON:inO (D.str "rests") (.tup [.str "tells",.str "hears"])=some (.bl false):=by
 have a:((Str.ofString "tells" : Str) == Str.ofString "rests")=false:=by decide +kernel
 have b:((Str.ofString "hears" : Str) == Str.ofString "rests")=false:=by decide +kernel
 unfold inO;rw [if_pos (by simp [dep])];simp only [List.any_cons,List.any_nil,eqD,a,b,Bool.or_false]
def zCT (ps:List Pl) (d:Int) (K:List Int):D:=match turns ps d K with
 | []=>.tup [.str "rests"]
 |t::_=>zh (ask t d)
theorem zRR {sts:List St} (hl:sts.length<16000000) :
  (zFn 5 (vIf (bB (b2 (b2 (gR 8) (zN 0) ixO) (λρ=>((zC (λ_=>some (D.str "tells")) (zC (λ_=>some (D.str "hears")) zP)) ρ).map D.tup) inO)) (λρ=>((zC (b2 (gR 8) (zN 0) ixO) (zC (b2 (gR 8) (zN 1) ixO) (zC (b1 (gR 10) zGH) zP))) ρ).map D.tup) (gV 8)))
   [s0,s1,s2,s3,s4,.l (sts.map stD),s6,s7,.v (zCT ps d K),s9,.l ((zFY ps d Ks K).map chD),s11,s12] =
   some (.nx [s0,s1,s2,s3,s4,.l ((sts ++ [zFz ps d Ks K]).map stD),s6,s7,.v (zCT ps d K),s9,.l ((zFY ps d Ks K).map chD),s11,s12]):=by
 unfold zCT zFz
 cases turns ps d K with
 |nil=>
  have i0:ixO (.tup [.str "rests"]) (.int 0)=some (.str "rests"):=by simp only [ixO,at0]
  exists 0,vIf,i0,zON,hl,List.map_append,stD
 |cons t ts=>
  simp only
  generalize ask t d=x
  cases x with
  |fin=>
   have i0:ixO (zh .fin) (.int 0)=some (.str "end"):=by simp only [zh,ixO,at0]
   have ia:=zMX .fin
   exists 0,vIf,i0,ia,hl,List.map_append,stD
   rfl
  |tells b ws=>
   have i0:ixO (zh (.tells b ws)) (.int 0)=some (.str "tells"):=by simp only [zh,ixO,at0]
   have i1:ixO (zh (.tells b ws)) (.int 1)=some (.int b):=by simp only [zh,ixO,at1]
   have ia:=zMX (.tells b ws)
   exists 0,vIf,i0,i1,ia,hl,List.map_append,stD
  |hears a=>
   have i0:ixO (zh (.hears a)) (.int 0)=some (.str "hears"):=by simp only [zh,ixO,at0]
   have i1:ixO (zh (.hears a)) (.int 1)=some (.int a):=by simp only [zh,ixO,at1]
   have ia:=zMX (.hears a)
   exists 0,vIf,i0,i1,ia,hl,List.map_append,stD
theorem zB8:w∈yo ps d K↔w∈wds (zBa ps d K):=zC7
theorem zOO (qs:List (Str×Int)):(yh qs).map (λq=>zKM q.1)=(wds qs).map D.str:=by
 unfold yh
 rw [List.map_map]
 rfl
theorem zMY {l:List Str} (h:l.length<64):zEk (.lst (l.map D.str))=some ((zA8 l).map D.str):=zHT h
theorem zTF {ps:List Pl} (h:z9 m ps) (hn:n∈tgt ps e e'):0<=n/\n<(ps.length:Int):=by
 obtain ⟨p,hp,hm⟩:=List.mem_flatMap.mp hn
 cases p with
 |fin=>simp [tg1] at hm
 |tell a b ch=>
  simp only [tg1] at hm
  split at hm
  ·obtain ⟨q,hq,rfl⟩:=List.mem_map.mp hm
   exact (h.ok _ hp:okT _ _ _ _ _).nx q hq
  ·simp at hm
theorem zIX {α:Type} {s:List α}:∀ {l:List α},s∈zKO l->s.Sublist l
 | [],h=>by simp [zKO] at h;subst h;simp
 |x::l,h=>by
  rcases List.mem_append.mp h with h|h
  ·exact (zIX h).cons x
  ·obtain ⟨s',h',rfl⟩:=List.mem_map.mp h
   exact (zIX h').cons_cons x
theorem zOP (h:z9 m ps) (hf:Few ps) (hK:K∈zMQ ps d):zCL ps K:=by
 have one:∀ e e' S,S∈zKO (tgt ps e e')->zCL ps (apt ps d S):=λe e' S hS=>by
  have s:=zIX hS
  refine (zCS h d (λn hn=>zTF h (s.subset hn)) ?_).1
  have:=s.length_le
  rw [zFA] at this
  have:=hf e e'
  omega
 rcases List.mem_cons.mp hK with rfl|hK
 ·exact (zCS h d (λn hn=>by simp at hn;subst hn;have:=h.n0;omega) (by simp)).1
 ·obtain ⟨e,_,hK⟩:=List.mem_flatMap.mp hK
  rcases List.mem_append.mp hK with hK|hK
  ·obtain ⟨S,hS,rfl⟩:=List.mem_map.mp hK;exact one _ _ S hS
  ·obtain ⟨S,hS,rfl⟩:=List.mem_map.mp hK;exact one _ _ S hS
structure PS (m:Int) (ps:List Pl) (d:Int):Prop where
 dn:z9 m ps
 few:Few ps
 d0:0<=d
 d1:d<m
def zAH (ps:List Pl) (d:Int) (Ks:List (List Int)) (K:List Int):List (List Int):=(yo ps d K).foldl (λKs w=>zA6 Ks (zA3 ps d K w)) Ks
def Bad (ps:List Pl) (d:Int) (K:List Int):Prop:=zBE ps d K=false\/(turns ps d K≠[]/\∃ n∈K,turns ps d (apt ps d [n]) = [])
structure zOQ (ps:List Pl) (d:Int) (vs:List Int) (Ks:List (List Int)) (sts:List St):Prop where
 nd:Ks.Nodup
 pl:∀ K∈Ks,K∈zMQ ps d
 st:∀ K∈Ks,zCL ps K
 le:sts.length<=Ks.length
 cl:∀ K∈Ks.take sts.length,zJZ ps d Ks K/\zBE ps d K=true/\(turns ps d K = []\/∀ n∈K,n∉vs)
 eq:sts=(Ks.take sts.length).map (zFz ps d Ks)
theorem zOQ.len {ps:List Pl} {d:Int} {vs:List Int} {Ks:List (List Int)} {sts:List St} (I:zOQ ps d vs Ks sts) (hf:Few ps):Ks.length<=8388609:=Nat.le_trans (zDB I.nd I.pl) (zGd hf d)
theorem zTG {xs ys:List D}:qP [s0,s1,s2,.l xs,s4,.l ys,s6,s7,s8,s9,s10,s11,s12]=some (decide (ys.length<xs.length)):=by
 exists 0,qP,ixO
 congr 1
 exact decide_eq_decide.mpr (by omega)
theorem zHc {ps:List Pl} (h:PS m ps d) {Ks:List (List Int)} {sts:List St} (I:zOQ ps d vs Ks sts) (hl:sts.length<Ks.length) (hv:∀ n:Int,0<=n->n<(ps.length:Int)->(n∈vs↔turns ps d (apt ps d [n]) = [])) (s6 s7 s8 s9 s10 s11 s12:Sl) :
  (Bad ps d Ks[sts.length]/\yR [.v (dnD m ps),.v (.int d),.m (tk vs),.l (Ks.map zv),.o none (.p (.t (yH Ks))),.l (sts.map stD),s6,s7,s8,s9,s10,s11,s12]=some (.ex 0)) \/
  ¬ Bad ps d Ks[sts.length] /\
  ∃ r st s6' s7' s8' s9' s10' s11' s12',Ks++r=zAH ps d Ks Ks[sts.length]/\zOQ ps d vs (Ks++r) (sts ++ [st])/\yR [.v (dnD m ps),.v (.int d),.m (tk vs),.l (Ks.map zv),.o none (.p (.t (yH Ks))),.l (sts.map stD),s6,s7,s8,s9,s10,s11,s12] =
   some (.o (.nx [.v (dnD m ps),.v (.int d),.m (tk vs),.l ((Ks++r).map zv),.o none (.p (.t (yH (Ks++r)))),.l ((sts ++ [st]).map stD),s6',s7',s8',s9',s10',s11',s12'])):=by
 have d4:d<4:=by have:=h.dn.m1;have:=h.d1;omega
 have hK:Ks[sts.length]?=some Ks[sts.length]:=by simp [hl]
 generalize Ks[sts.length]=K at hK ⊢
 have mK:K∈Ks:=List.mem_of_getElem? hK
 have sK:=I.st K mK
 have lK:=sK.len
 have kl:=I.len h.few
 have i1:ixO (.lst (Ks.map zv)) (.int (sts.length:Int))=some (zv K):=by
  have:¬ ((sts.length:Int)<0):=by omega
  have hg:Ks[sts.length]=K:=by rw [List.getElem?_eq_getElem hl] at hK;exact Option.some.inj hK
  simp [ixO,atI,ixN,hl,hg]
 have mt:=zMG (m:=m) d sK.inn (by omega)
 obtain ⟨r,hr,mr⟩:=zOJ h.d0 d4 K (turns ps d K) vs (by omega)
 have tl:=zMO ps d K
 have ma:=zIS h.d0 d4 (turns ps d K) (by omega) λt ht=>(zGe h.dn ht).few
 have st1:yR [.v (dnD m ps),.v (.int d),.m (tk vs),.l (Ks.map zv),.o none (.p (.t (yH Ks))),.l (sts.map stD),s6,s7,s8,s9,s10,s11,s12]=yR [.v (dnD m ps),.v (.int d),.m (tk vs),.l (Ks.map zv),.o none (.p (.t (yH Ks))),.l (sts.map stD),s6,s7,s8,s9,s10,s11,s12]:=rfl
 unfold yR
 have q1:∀ G:Rho->Option zBR,sqX (oX (qJ 6 (b2 (gR 3) (b1 (gR 5) zDX) ixO))) G [.v (dnD m ps),.v (.int d),.m (tk vs),.l (Ks.map zv),.o none (.p (.t (yH Ks))),.l (sts.map stD),s6,s7,s8,s9,s10,s11,s12]=G [.v (dnD m ps),.v (.int d),.m (tk vs),.l (Ks.map zv),.o none (.p (.t (yH Ks))),.l (sts.map stD),.v (zv K),s7,s8,s9,s10,s11,s12]:=λG=>
  zDC (zIW (by exists 0,i1))
 have q2:∀ G:Rho->Option zBR,sqX (oX (qJ 7 (λρ=>((zC (gV 0) (zC (gV 1) (zC (gV 6) zP))) ρ).bind yM))) G [.v (dnD m ps),.v (.int d),.m (tk vs),.l (Ks.map zv),.o none (.p (.t (yH Ks))),.l (sts.map stD),.v (zv K),s7,s8,s9,s10,s11,s12]=G [.v (dnD m ps),.v (.int d),.m (tk vs),.l (Ks.map zv),.o none (.p (.t (yH Ks))),.l (sts.map stD),.v (zv K),.v (.lst ((turns ps d K).map plD)),s8,s9,s10,s11,s12]:=λG=>
  zDC (zIW (by exists 0,zv,mt))
 have e3:(zLR (zQi 2 (aCo (gV 1) (aCo (gV 6) (aCo (gV 7) zP))) zr)) [.v (dnD m ps),.v (.int d),.m (tk vs),.l (Ks.map zv),.o none (.p (.t (yH Ks))),.l (sts.map stD),.v (zv K),.v (.lst ((turns ps d K).map plD)),s8,s9,s10,s11,s12]=(some r:Option (Except Nat D)).map (λr=>match r with | .ok _=>.o (.nx [.v (dnD m ps),.v (.int d),.m (tk vs),.l (Ks.map zv),.o none (.p (.t (yH Ks))),.l (sts.map stD),.v (zv K),.v (.lst ((turns ps d K).map plD)),s8,s9,s10,s11,s12]) | .error c=>.ex c):=by
  rw [<- mr]
  rfl
 rw [q1,q2]
 rcases hr with ⟨rfl,nv⟩|⟨rfl,tn,n,hn,hv'⟩
 ·rw [zDC e3]
  by_cases al:zBE ps d K=true
  ·right
   refine ⟨λb=>?_,?_⟩
   ·rcases b with b|⟨b,n,hn,z⟩
    ·rw [al] at b;cases b
    ·exact (nv.resolve_left b) n hn ((hv n (sK.inn n hn).1 (sK.inn n hn).2).mpr z)
   have ma':yE [.lst ((turns ps d K).map plD),.int d]=some (.ok (zCT ps d K)):=by
    rw [ma]
    unfold zBE at al
    unfold zCT zJO
    cases e:turns ps d K with
    |nil=>rfl
    |cons t ts=>rw [e] at al;simp only at al ⊢;rw [if_pos al]
   have qf:=zPO h.few sK al
   have nx:=λw hw=>zIV h.dn h.few ⟨h.d0,h.d1⟩ sK al w hw
   have ap:=λw (hw:w∈wds (zBa ps d K))=>zCS h.dn d (nx w hw).2.1 (by have:=(nx w hw).2.2;omega)
   have mn:=zRN (ts:=turns ps d K) (by show (zBa ps d K).length<=1000;omega)
   have wl:=zIT (zBa ps d K)
   have sl:(yo ps d K).length<=20:=by unfold yo;rw [zC8];omega
   have so:=zMY (l:=wds (zBa ps d K)) (by omega)
   obtain ⟨rr,s11',s12',p0,p1,p2,p3,p4⟩:=zFy (m:=m) (ps:=ps) (d:=d) (s2:=.m (tk vs)) (s5:=.l (sts.map stD)) (s6:=.v (zv K)) (s7:=.v (.lst ((turns ps d K).map plD))) (s8:=.v (zCT ps d K)) (qs:=zBa ps d K) 8388609 (by decide) (zMQ ps d) (zGd h.few d) (λw hw=>⟨(nx w hw).1,(ap w hw).2⟩) (yo ps d K) Ks [] s11 s12 (λw hw=>zB8.mp hw) I.nd I.pl (by simp;omega)
   have ePr:([]++(yo ps d K).map λw=>(w,(ixOf (Ks++rr) (apt ps d (sel w (zBa ps d K))):Int)))=zFY ps d (Ks++rr) K:=by rw [List.nil_append];rfl
   rw [ePr,List.map_nil] at p4
   refine ⟨rr,zFz ps d (Ks++rr) K,.v (zv K),.v (.lst ((turns ps d K).map plD)),.v (zCT ps d K),.o none (.p (.ml (yh (zBa ps d K)))),.l ((zFY ps d (Ks++rr) K).map chD),s11',s12',p0,?_,?_⟩
   ·have cK:zJZ ps d (Ks++rr) K:=p3
    have tk1:(Ks++rr).take (sts ++ [zFz ps d (Ks++rr) K]).length=Ks.take sts.length ++ [K]:=by
     rw [List.length_append,List.length_singleton,List.take_append_of_le_length (by omega),List.take_succ,hK];rfl
    refine ⟨p1,p2,λK' hK'=>?_,by simp;omega,λK' hK'=>?_,?_⟩
    ·rcases List.mem_append.mp hK' with hK' | hK'
     ·exact I.st K' hK'
     ·exact zOP h.dn h.few (p2 K' (List.mem_append.mpr (.inr hK')))
    ·rw [tk1] at hK'
     rcases List.mem_append.mp hK' with hK' | hK'
     ·obtain ⟨c1,c2⟩:=I.cl K' hK'
      exact ⟨λw hw=>List.mem_append.mpr (.inl (c1 w hw)),c2⟩
     ·simp at hK';subst hK';exact ⟨cK,al,nv⟩
    ·rw [tk1,List.map_append,List.map_singleton]
     congr 1
     rw [show (Ks.take sts.length).map (zFz ps d (Ks++rr))=(Ks.take sts.length).map (zFz ps d Ks) from List.map_congr_left λK' hK'=>zOM (I.cl K' hK').1 rr]
     exact I.eq
   ·refine (zDC (ρ':=[.v (dnD m ps),.v (.int d),.m (tk vs),.l (Ks.map zv),.o none (.p (.t (yH Ks))),.l (sts.map stD),.v (zv K),.v (.lst ((turns ps d K).map plD)),.v (zCT ps d K),s9,s10,s11,s12]) ?_).trans ?_
    ·exists 0,zNd,ma'
    ·refine zIW ?_
     refine (zf (ρ':=[.v (dnD m ps),.v (.int d),.m (tk vs),.l (Ks.map zv),.o none (.p (.t (yH Ks))),.l (sts.map stD),.v (zv K),.v (.lst ((turns ps d K).map plD)),.v (zCT ps d K),.o none (.p (.ml (yh (zBa ps d K)))),s10,s11,s12]) ?_).trans ?_
     ·exists 0,zGM,mn
      rfl
     ·refine (zf (ρ':=[.v (dnD m ps),.v (.int d),.m (tk vs),.l (Ks.map zv),.o none (.p (.t (yH Ks))),.l (sts.map stD),.v (zv K),.v (.lst ((turns ps d K).map plD)),.v (zCT ps d K),.o none (.p (.ml (yh (zBa ps d K)))),.l [],s11,s12]) rfl).trans ?_
      refine (zf ((sFor_eq (ds:=(yo ps d K).map D.str) ?_).trans p4)).trans ?_
      ·exists 0,zLf,gML,zOO,so,yo
      ·exact zRR (by omega)
  ·left
   refine ⟨.inl (by simpa using al),zMW ?_⟩
   have ma':yE [.lst ((turns ps d K).map plD),.int d]=some (.error 0):=by
    rw [ma]
    unfold zBE at al
    unfold zJO
    cases e:turns ps d K with
    |nil=>rw [e] at al;exact absurd rfl al
    |cons t ts=>rw [e] at al;simp only at al ⊢;rw [if_neg al]
   exists 0,zNd,ma'
 ·left;exact ⟨.inr ⟨tn,n,hn,(hv n (sK.inn n hn).1 (sK.inn n hn).2).mp hv'⟩,zMW e3⟩
theorem zMZ {c:ROb} {F:Rho->Option zBR} {k:Nat} {ρ ρ':Rho} (h:c ρ=some true) (e:F ρ=some (.o (.nx ρ'))):zAs c F (k+1) ρ=zAs c F k ρ':=by
 simp only [zAs,h,Option.bind_some,if_true,e]
theorem zMa {c:ROb} {F:Rho->Option zBR} {k n:Nat} {ρ:Rho} (h:c ρ=some true) (e:F ρ=some (.ex n)):zAs c F (k+1) ρ=some (.ex n):=by
 simp only [zAs,h,Option.bind_some,if_true,e]
theorem zJ5 {c:ROb} {F:Rho->Option zBR} {k:Nat} {ρ:Rho} (h:c ρ=some false):zAs c F (k+1) ρ=some (.o (.nx ρ)):=by
 simp [zAs,h]
def zDD (ps:List Pl) (d:Int):Nat->Nat->List (List Int)->Option (List (List Int))
 |0,_,_=>none
 |k+1,i,Ks=>match Ks[i]? with
  |none=>some Ks
  |some K=>open Classical in if Bad ps d K then none else zDD ps d k (i+1) (zAH ps d Ks K)
inductive Rch (ps:List Pl) (d:Int):List Int->Prop
 |ze:Rch ps d (apt ps d [0])
 |nx {K:List Int} {w:Str}:Rch ps d K->w∈yo ps d K->Rch ps d (zA3 ps d K w)
theorem zJ6 {ps:List Pl} {d:Int} {K:List Int} (hK:Rch ps d K) {Ks:List (List Int)} (h:∀ K∈Ks,Rch ps d K):∀ K'∈zAH ps d Ks K,Rch ps d K':=by
 unfold zAH
 have key:∀ (ws:List Str) (Ks:List (List Int)),(∀ w∈ws,w∈yo ps d K)->(∀ K∈Ks,Rch ps d K)->∀ K'∈ws.foldl (λKs w=>zA6 Ks (zA3 ps d K w)) Ks,Rch ps d K':=by
  intro ws
  induction ws with
  |nil=>exact λKs _ h=>h
  |cons w ws ih=>
   intro Ks hw h
   refine ih _ (λv hv=>hw v (List.mem_cons_of_mem _ hv)) λK' hK'=>?_
   replace hK':K'∈zA6 Ks (zA3 ps d K w):=hK'
   unfold zA6 at hK'
   split at hK'
   ·exact h K' hK'
   ·rcases List.mem_append.mp hK' with q|q
    ·exact h K' q
    ·rw [List.mem_singleton.mp q];exact .nx hK (hw w List.mem_cons_self)
 exact key _ Ks (λ_ h=>h) h
theorem zHd {m:Int} {ps:List Pl} {d:Int} (h:PS m ps d) (vs:List Int) (hv:∀ n:Int,0<=n->n<(ps.length:Int)->(n∈vs↔turns ps d (apt ps d [n]) = [])):∀ (n:Nat) (Ks:List (List Int)) (sts:List St) (s6 s7 s8 s9 s10 s11 s12:Sl),zOQ ps d vs Ks sts->(∀ K∈Ks,Rch ps d K)->8388609<n+sts.length ->
  ((zDD ps d n sts.length Ks=none/\∃ K,Rch ps d K/\Bad ps d K)/\zAs qP yR n [.v (dnD m ps),.v (.int d),.m (tk vs),.l (Ks.map zv),.o none (.p (.t (yH Ks))),.l (sts.map stD),s6,s7,s8,s9,s10,s11,s12]=some (.ex 0)) \/
  ∃ r sts' s6' s7' s8' s9' s10' s11' s12',zDD ps d n sts.length Ks=some (Ks++r)/\zOQ ps d vs (Ks++r) sts'/\sts'.length=(Ks++r).length/\zAs qP yR n [.v (dnD m ps),.v (.int d),.m (tk vs),.l (Ks.map zv),.o none (.p (.t (yH Ks))),.l (sts.map stD),s6,s7,s8,s9,s10,s11,s12] =
   some (.o (.nx [.v (dnD m ps),.v (.int d),.m (tk vs),.l ((Ks++r).map zv),.o none (.p (.t (yH (Ks++r)))),.l (sts'.map stD),s6',s7',s8',s9',s10',s11',s12']))
 |0,Ks,sts,s6,s7,s8,s9,s10,s11,s12,I,hR,hn=>by have:=I.len h.few;have:=I.le;omega
 |n+1,Ks,sts,s6,s7,s8,s9,s10,s11,s12,I,hR,hn=>by
  have tp:=zTG (s0:=.v (dnD m ps)) (s1:=.v (.int d)) (s2:=.m (tk vs)) (s4:=.o none (.p (.t (yH Ks)))) (s6:=s6) (s7:=s7) (s8:=s8) (s9:=s9) (s10:=s10) (s11:=s11) (s12:=s12) (xs:=Ks.map zv) (ys:=sts.map stD)
  rw [List.length_map,List.length_map] at tp
  by_cases hl:sts.length<Ks.length
  ·rw [decide_eq_true hl] at tp
   have pn:zDD ps d (n+1) sts.length Ks=open Classical in if Bad ps d Ks[sts.length] then none else zDD ps d n (sts.length+1) (zAH ps d Ks Ks[sts.length]):=by rw [zDD,List.getElem?_eq_getElem hl]
   rcases zHc h (vs:=vs) I hl hv s6 s7 s8 s9 s10 s11 s12 with ⟨b,e⟩|⟨b,r,st,a6,a7,a8,a9,a10,a11,a12,ea,I',e⟩
   ·left;exact ⟨⟨by rw [pn,if_pos b],_,hR _ (List.getElem_mem hl),b⟩,zMa tp e⟩
   ·rw [pn,if_neg b,<- ea,zMZ tp e]
    rcases zHd h vs hv n (Ks++r) (sts ++ [st]) a6 a7 a8 a9 a10 a11 a12 I' (by rw [ea];exact zJ6 (hR _ (List.getElem_mem hl)) hR) (by simp;omega) with e' | ⟨r',sts',b6,b7,b8,b9,b10,b11,b12,J0,J,jl,e'⟩
    ·left;rw [List.length_append,List.length_singleton] at e';exact e'
    ·right
     rw [List.length_append,List.length_singleton] at J0
     rw [List.append_assoc] at J0 J jl e'
     exact ⟨r++r',sts',b6,b7,b8,b9,b10,b11,b12,J0,J,jl,e'⟩
  ·rw [decide_eq_false hl] at tp
   right
   refine ⟨[],sts,s6,s7,s8,s9,s10,s11,s12,by rw [zDD,List.getElem?_eq_none (by omega),List.append_nil],by simpa using I,by have:=I.le;simp;omega,?_⟩
   rw [zJ5 tp,List.append_nil]
structure IsPart (ps:List Pl) (d:Int) (Ks:List (List Int)):Prop where
 nd:Ks.Nodup
 ze:Ks[0]?=some (apt ps d [0])
 st:∀ K∈Ks,zCL ps K
 cl:∀ K∈Ks,zJZ ps d Ks K
 al:∀ K∈Ks,zBE ps d K=true
 nv:∀ K∈Ks,turns ps d K≠[]->∀ x∈K,turns ps d (apt ps d [x])≠[]
 le:Ks.length<=8388609
def zIY (ps:List Pl) (d:Int) (Ks:List (List Int)):D:=.tup ((Ks.map (zFz ps d Ks)).map stD)
theorem zRS {N:List Str} {F:Rho->Option zBR} {ds:List D} {ρ:Rho} (h:ds.map Sl.v++List.replicate (N.length-ds.length) .un=ρ):zQS N F ds=(F ρ).bind λo=>match o with
  |.o (.rt d)=>some (.ok d)
  |.o (.nx _)=>some (.ok .non)
  |.ex c=>some (.error c)
  |_=>none:=by subst h;rfl
theorem zOR {i:Nat} {fl:ROl} {F:List D->Option Sl} {ρ:Rho} {ds:List D} {s:Sl} (h1:fl ρ=some ds) (h2:F ds=some s):zGM i fl F ρ=some (.nx (ρ.set i s)):=by
 unfold zGM;rw [h1,Option.bind_some,h2,Option.map_some]
theorem zTH {m:Int} {ps:List Pl} {d:Int} (h:PS m ps d) (N:Nat) (hN:8388609<N) :
  ((zDD ps d N 0 [apt ps d [0]]=none/\∃ K,Rch ps d K/\Bad ps d K)/\(sqX (oX (zGM 2 (zC (gV 0) (zC (gV 1) zP)) zAC)) (sqX (oX (qG 3 (zC (λρ=>((zC (gV 0) (zC (gV 1) (zC (λρ=>((zC (zN 0) zP) ρ).map D.tup) zP))) ρ).bind qa) zP))) (sqX (oX (zJw 4 (b2 (gR 3) (zN 0) ixO) (zN 0))) (sqX (oX (qG 5 zP)) (sqX (zEu N qP yR) (oX (zAV (b1 (gR 5) zGH)))))))) [.v (dnD m ps),.v (.int d),.un,.un,.un,.un,.un,.un,.un,.un,.un,.un,.un]=some (.ex 0)) \/
  ∃ Ks,zDD ps d N 0 [apt ps d [0]]=some Ks/\IsPart ps d Ks/\(sqX (oX (zGM 2 (zC (gV 0) (zC (gV 1) zP)) zAC)) (sqX (oX (qG 3 (zC (λρ=>((zC (gV 0) (zC (gV 1) (zC (λρ=>((zC (zN 0) zP) ρ).map D.tup) zP))) ρ).bind qa) zP))) (sqX (oX (zJw 4 (b2 (gR 3) (zN 0) ixO) (zN 0))) (sqX (oX (qG 5 zP)) (sqX (zEu N qP yR) (oX (zAV (b1 (gR 5) zGH)))))))) [.v (dnD m ps),.v (.int d),.un,.un,.un,.un,.un,.un,.un,.un,.un,.un,.un]=some (.o (.rt (zIY ps d Ks))):=by
 obtain ⟨vs,hvs,mv⟩:=zPM h.dn d
 obtain ⟨s0,a0⟩:=zCS h.dn d (S:=[0]) (λn hn=>by simp at hn;subst hn;have:=h.dn.n0;omega) (by simp)
 simp only [List.map_cons,List.map_nil] at a0
 have kz:=zMT (apt ps d [0])
 have I0:zOQ ps d vs [apt ps d [0]] []:=⟨by simp,λK hK=>by simp at hK;subst hK;exact List.mem_cons_self,λK hK=>by simp at hK;subst hK;exact s0,by simp,by simp,by simp⟩
 have pre:∀ G:Rho->Option zBR,(sqX (oX (zGM 2 (zC (gV 0) (zC (gV 1) zP)) zAC)) (sqX (oX (qG 3 (zC (λρ=>((zC (gV 0) (zC (gV 1) (zC (λρ=>((zC (zN 0) zP) ρ).map D.tup) zP))) ρ).bind qa) zP))) (sqX (oX (zJw 4 (b2 (gR 3) (zN 0) ixO) (zN 0))) (sqX (oX (qG 5 zP)) G)))) [.v (dnD m ps),.v (.int d),.un,.un,.un,.un,.un,.un,.un,.un,.un,.un,.un] =
   G [.v (dnD m ps),.v (.int d),.m (tk vs),.l ([apt ps d [0]].map zv),.o none (.p (.t (yH [apt ps d [0]]))),.l (([]:List St).map stD),.un,.un,.un,.un,.un,.un,.un]:=λG=>by
  refine (zDC (ρ':=[.v (dnD m ps),.v (.int d),.m (tk vs),.un,.un,.un,.un,.un,.un,.un,.un,.un,.un]) (zIW ?_)).trans ((zDC (ρ':=[.v (dnD m ps),.v (.int d),.m (tk vs),.l [zv (apt ps d [0])],.un,.un,.un,.un,.un,.un,.un,.un,.un]) (zIW ?_)).trans ((zDC (ρ':=[.v (dnD m ps),.v (.int d),.m (tk vs),.l [zv (apt ps d [0])],.o none (.p (.t (yH [apt ps d [0]]))),.un,.un,.un,.un,.un,.un,.un,.un]) (zIW ?_)).trans (zDC (zIW rfl))))
  ·exact zOR rfl mv
  ·exists 0,a0
   rfl
  ·have i0:ixO (.lst [zv (apt ps d [0])]) (.int 0)=some (zv (apt ps d [0])):=by simp only [ixO,at0]
   exists 0,zJw,i0,kz
   rfl
 have lp:=zHd h vs hvs N [apt ps d [0]] [] .un .un .un .un .un .un .un I0 (λK hK=>by simp at hK;subst hK;exact .ze) (by simpa using hN)
 rw [pre]
 unfold zEu
 rcases lp with ⟨e0,e⟩|⟨r,sts,s6,s7,s8,s9,s10,s11,s12,e0,I,hl,e⟩
 ·left
  exact ⟨e0,zMW e⟩
 ·right
  have tkl:([apt ps d [0]]++r).take sts.length = [apt ps d [0]]++r:=by rw [hl];exact List.take_length
  refine ⟨[apt ps d [0]]++r,e0,⟨I.nd,rfl,I.st,λK hK=>(I.cl K (by rw [tkl];exact hK)).1,λK hK=>(I.cl K (by rw [tkl];exact hK)).2.1,λK hK ht x hx z=>((I.cl K (by rw [tkl];exact hK)).2.2.resolve_left ht) x hx ((hvs x ((I.st K hK).inn x hx).1 ((I.st K hK).inn x hx).2).mpr z),I.len h.few⟩,?_⟩
  have es:=I.eq
  rw [tkl] at es
  rw [zDC e]
  show some (zBR.o (Out.rt (D.tup (sts.map stD))))=some (zBR.o (Out.rt (D.tup ((([apt ps d [0]]++r).map (zFz ps d ([apt ps d [0]]++r))).map stD))))
  rw [<- es]
theorem zGg {m:Int} {ps:List Pl} {d:Int} (h:PS m ps d):((zDD ps d 20000000 0 [apt ps d [0]]=none/\∃ K,Rch ps d K/\Bad ps d K)/\zAD [dnD m ps,.int d]=some (.error 0))\/∃ Ks,zDD ps d 20000000 0 [apt ps d [0]]=some Ks/\IsPart ps d Ks/\zAD [dnD m ps,.int d]=some (.ok (zIY ps d Ks)):=by
 have q:=zTH h 20000000 (by decide)
 unfold zAD
 rw [zRS (ρ:=[.v (dnD m ps),.v (.int d),.un,.un,.un,.un,.un,.un,.un,.un,.un,.un,.un]) rfl]
 unfold zE8
 rcases q with ⟨e0,e⟩|⟨Ks,e0,hk,e⟩
 ·left;rw [e];exact ⟨e0,rfl⟩
 ·right;refine ⟨Ks,e0,hk,?_⟩;rw [e];rfl
theorem zMb {ps:List Pl} {d:Int}:∀ (k:Nat) (found ws f:List Int),run ps d k found ws=some f->(∀ x∈found,x∈f)/\(∀ x∈ws,x∈f)/\∀ x∈f,x∉found->∀ y∈zCm ps d x,y∈f
 |0,found,ws,f,h=>by simp [LG.run] at h
 |k+1,found,ws,f,h=>by
  unfold LG.run at h
  cases e:ws.getLast? with
  |none=>
   rw [e] at h
   cases h
   rw [zB5 e]
   exact ⟨λx hx=>hx,λx hx=>(nomatch hx),λx hx nx=>absurd hx nx⟩
  |some n=>
   rw [e] at h
   simp only at h
   have ew:=(zCH e).1
   split at h
   ·rename_i hn
    obtain ⟨a,b,c⟩:=zMb k found ws.dropLast f h
    refine ⟨a,λx hx=>?_,c⟩
    rw [ew] at hx
    rcases List.mem_append.mp hx with hx|hx
    ·exact b x hx
    ·cases List.mem_singleton.mp hx;exact a n hn
   ·obtain ⟨a,b,c⟩:=zMb k (found ++ [n]) (ws.dropLast++zCm ps d n) f h
    refine ⟨λx hx=>a x (List.mem_append_left _ hx),λx hx=>?_,λx hx nx y hy=>?_⟩
    ·rw [ew] at hx
     rcases List.mem_append.mp hx with hx|hx
     ·exact b x (List.mem_append_left _ hx)
     ·cases List.mem_singleton.mp hx;exact a n (List.mem_append_right _ (List.mem_singleton.mpr rfl))
    ·by_cases q:x=n
     ·subst q;exact b y (List.mem_append_right _ hy)
     ·exact c x hx (λz=>(List.mem_append.mp z).elim nx λz=>q (List.mem_singleton.mp z)) y hy
theorem zTI {m:Int} {ps:List Pl} (h:z9 m ps) (d:Int) {S:List Int} (hs:Inn ps S) (hl:S.length<=100):(∀ x∈S,x∈apt ps d S)/\∀ x∈apt ps d S,∀ y∈zCm ps d x,y∈apt ps d S:=by
 obtain ⟨f,e1,_,_⟩:=zEN h d S hs hl
 obtain ⟨_,b,c⟩:=zMb 300 [] S f e1
 have ea:apt ps d S=zA7 f:=by simp [apt,e1]
 rw [ea]
 exact ⟨λx hx=>zAk.mpr (b x hx),λx hx y hy=>zAk.mpr (c x (zAk.mp hx) (λz=>nomatch z) y hy)⟩
theorem zGh {ps:List Pl} {d:Int} {P:Int->Prop} (hP:∀ n,P n->∀ y∈zCm ps d n,P y):∀ (k:Nat) (found ws f:List Int),run ps d k found ws=some f->(∀ x∈found,P x)->(∀ x∈ws,P x)->∀ x∈f,P x
 |0,found,ws,f,h,_,_=>by simp [LG.run] at h
 |k+1,found,ws,f,h,h1,h2=>by
  unfold LG.run at h
  cases e:ws.getLast? with
  |none=>
   rw [e] at h
   cases h
   exact h1
  |some n=>
   rw [e] at h
   simp only at h
   have ew:=(zCH e).1
   have hd:∀ x∈ws.dropLast,P x:=λx hx=>h2 x (by rw [ew];exact List.mem_append_left _ hx)
   have hn:P n:=h2 n (by rw [ew];exact List.mem_append_right _ (List.mem_singleton.mpr rfl))
   split at h
   ·exact zGh hP k found ws.dropLast f h h1 hd
   ·refine zGh hP k (found ++ [n]) (ws.dropLast++zCm ps d n) f h (λx hx=>?_) λx hx=>?_
    ·exact (List.mem_append.mp hx).elim (h1 x) λz=>by rw [List.mem_singleton.mp z];exact hn
    ·exact (List.mem_append.mp hx).elim (hd x) (hP n hn x)
def Pth (ps:List Pl) (d:Int):Nat->Int->Prop
 |0,x=>∃ p,ps[x.toNat]?=some p/\isT p d=true
 |k+1,x=>∃ y∈zCm ps d x,Pth ps d k y
structure Lab (ps:List Pl) (d:Int) (L:Int->Int):Prop where
 on:∀ n y,0<=n->y∈zCm ps d n->L y=L n
 al:∀ n n' p p',0<=n->0<=n'->ps[n.toNat]?=some p->ps[n'.toNat]?=some p'->isT p d=true->isT p' d=true->L n=L n'->ask p d=ask p' d/\∀ q∈chs p,∀ q'∈chs p',q.1=q'.1->L q.2=L q'.2
 tr:∀ n,0<=n->n<(ps.length:Int)->∃ k,Pth ps d k n
theorem zDE {ps:List Pl} {d:Int} {K:List Int} {t:Pl}:t∈turns ps d K↔∃ n∈K,ps[n.toNat]?=some t/\isT t d=true:=by
 unfold turns zE9
 rw [List.mem_filter,List.mem_filterMap]
 exact ⟨λ⟨⟨n,a,b⟩,c⟩=>⟨n,a,b,c⟩,λ⟨n,a,b,c⟩=>⟨⟨n,a,b⟩,c⟩⟩
theorem zJa {ps:List Pl} {d:Int} {K:List Int} (hK:∀ x∈K,∀ y∈zCm ps d x,y∈K):∀ (k:Nat) (x:Int),x∈K->Pth ps d k x->turns ps d K≠[]
 |0,x,hx,⟨p,hp,ht⟩=>λz=>by
  have:=zDE.mpr ⟨x,hx,hp,ht⟩
  rw [z] at this;cases this
 |k+1,x,hx,⟨y,hy,h⟩=>zJa hK k y (hK x hx y hy) h
theorem Lab.good {m:Int} {ps:List Pl} {d:Int} (h:PS m ps d) {L:Int->Int} (H:Lab ps d L) {K:List Int} (hs:zCL ps K) {l:Int} (hl:∀ n∈K,L n=l):¬ Bad ps d K:=by
 rintro (b|⟨_,n,hn,b⟩)
 ·unfold zBE at b
  split at b
  ·cases b
  ·rename_i t ts e
   rw [List.all_eq_false] at b
   obtain ⟨u,hu,nu⟩:=b
   rw [<- e] at hu
   have ht:t∈turns ps d K:=by rw [e];exact List.mem_cons_self
   obtain ⟨x,hx,ex,tx⟩:=zDE.mp hu
   obtain ⟨y,hy,ey,ty⟩:=zDE.mp ht
   exact nu (decide_eq_true (H.al x y u t (hs.inn x hx).1 (hs.inn y hy).1 ex ey tx ty (by rw [hl x hx,hl y hy])).1)
 ·obtain ⟨k,p⟩:=H.tr n (hs.inn n hn).1 (hs.inn n hn).2
  obtain ⟨a1,a2⟩:=zTI h.dn d (S:=[n]) (λx hx=>by cases List.mem_singleton.mp hx;exact hs.inn n hn) (by simp)
  exact zJa a2 k n (a1 n (List.mem_singleton.mpr rfl)) p b
theorem zIZ {m:Int} {ps:List Pl} {d:Int} (h:PS m ps d) {L:Int->Int} (H:Lab ps d L) {S:List Int} (hs:Inn ps S) (hl:S.length<=100) {l:Int} (hS:∀ x∈S,L x=l):∀ x∈apt ps d S,L x=l:=by
 obtain ⟨f,e1,_,_⟩:=zEN h.dn d S hs hl
 have ea:apt ps d S=zA7 f:=by simp [apt,e1]
 rw [ea]
 exact λx hx=>(zGh (P:=λx=>0<=x/\L x=l) (λn hn y hy=>⟨((zGY h.dn d n).1 y hy).1,by rw [H.on n y hn.1 hy];exact hn.2⟩) 300 [] S f e1 (λ_ z=>nomatch z) (λx hx=>⟨(hs x hx).1,hS x hx⟩) x (zAk.mp hx)).2
theorem Lab.fair {m:Int} {ps:List Pl} {d:Int} (h:PS m ps d) {L:Int->Int} (H:Lab ps d L) {K:List Int} (r:Rch ps d K):zCL ps K/\∃ l,∀ n∈K,L n=l:=by
 induction r with
 |ze=>
  have i0:Inn ps [0]:=λx hx=>by cases List.mem_singleton.mp hx;have:=h.dn.n0;omega
  exact ⟨(zCS h.dn d i0 (by simp)).1,L 0,zIZ h H i0 (by simp) λx hx=>by cases List.mem_singleton.mp hx;rfl⟩
 |@nx K w r hw ih=>
  obtain ⟨hs,l,hl⟩:=ih
  have nb:=H.good h hs hl
  have ha:zBE ps d K=true:=by
   cases q:zBE ps d K with
   |true=>rfl
   |false=>exact absurd (.inl q) nb
  obtain ⟨_,inn,len⟩:=zIV h.dn h.few ⟨h.d0,h.d1⟩ hs ha w (zB8.mp hw)
  refine ⟨(zCS h.dn d inn (by omega)).1,?_⟩
  have mem:∀ x∈sel w (zBa ps d K),∃ n∈K,∃ p,ps[n.toNat]?=some p/\isT p d=true/\(w,x)∈chs p:=λx hx=>by
   obtain ⟨q,hq,rfl⟩:=List.mem_map.mp hx
   obtain ⟨q1,q2⟩:=List.mem_filter.mp hq
   obtain ⟨t,ht,hq'⟩:=List.mem_flatMap.mp q1
   obtain ⟨n,hn,e,tt⟩:=zDE.mp ht
   have:=of_decide_eq_true q2
   exact ⟨n,hn,t,e,tt,by rw [<- this];exact hq'⟩
  cases e:sel w (zBa ps d K) with
  |nil=>exact ⟨0,zIZ h H inn (by omega) λx hx=>by rw [e] at hx;cases hx⟩
  |cons x0 r0=>
   have m0:=mem x0 (by rw [e];exact List.mem_cons_self)
   obtain ⟨n0,k0,p0,e0,t0,c0⟩:=m0
   refine ⟨L x0,zIZ h H inn (by omega) λx hx=>?_⟩
   obtain ⟨n1,k1,p1,e1,t1,c1⟩:=mem x hx
   exact (H.al n1 n0 p1 p0 (hs.inn _ k1).1 (hs.inn _ k0).1 e1 e0 t1 t0 (by rw [hl _ k1,hl _ k0])).2 _ c1 _ c0 rfl
theorem Lab.part {m:Int} {ps:List Pl} {d:Int} (h:PS m ps d) {L:Int->Int} (H:Lab ps d L):zDD ps d 20000000 0 [apt ps d [0]]≠none:=by
 rcases zGg h with ⟨⟨_,K,r,b⟩,_⟩|⟨Ks,e,_⟩
 ·obtain ⟨hs,l,hl⟩:=H.fair h r
  exact absurd b (H.good h hs hl)
 ·rw [e];exact λz=>by cases z
def gt (ps:List Pl) (a n:Int):Option Pl:=if a<=n then ps[(n-a).toNat]? else none
def SP (ps:List Pl) (a d:Int) (E:Int->Prop):Nat->Int->Prop
 |0,x=>(∃ p,gt ps a x=some p/\isT p d=true)\/E x
 |k+1,x=>∃ p,gt ps a x=some p/\isT p d=false/\∃ q∈chs p,SP ps a d E k q.2
structure Sg (ps:List Pl) (d a:Int) (Λ:Int->Int) (S Z:Int->Prop) (L:Int->Int):Prop where
 out:∀ x,gt ps a x=none->L x=Λ x
 st:∀ x,S x->L x=Λ x
 on:∀ n p,gt ps a n=some p->isT p d=false->∀ q∈chs p,L q.2=L n
 al:∀ n n' p p',gt ps a n=some p->gt ps a n'=some p'->isT p d=true->isT p' d=true->L n=L n'->ask p d=ask p' d/\∀ q∈chs p,∀ q'∈chs p',q.1=q'.1->L q.2=L q'.2
 ow:∀ n p,gt ps a n=some p->isT p d=true->gt ps a (L n)≠none
 tg:∀ n p,gt ps a n=some p->∀ q∈chs p,gt ps a q.2≠none\/S q.2
 ex:∀ n,gt ps a n≠none->∃ k,SP ps a d S k n
 sx:∀ n,S n->gt ps a n≠none->∃ k,SP ps a d Z k n
 zx:∀ n,Z n->gt ps a n≠none->∃ k,SP ps a d (λ_=>False) k n
theorem SP.mono {ps qs:List Pl} {a b d:Int} {E:Int->Prop} (h:∀ n p,gt ps a n=some p->gt qs b n=some p):∀ {k:Nat} {x:Int},SP ps a d E k x->SP qs b d E k x
 |0,x,.inl ⟨p,e,t⟩=>.inl ⟨p,h x p e,t⟩
 |0,x,.inr e=>.inr e
 |k+1,x,⟨p,e,t,q,hq,r⟩=>⟨p,h x p e,t,q,hq,SP.mono h r⟩
theorem SP.on {ps:List Pl} {a d:Int} {E F:Int->Prop} (h:∀ x,E x->∃ k,SP ps a d F k x):∀ {k:Nat} {x:Int},SP ps a d E k x->∃ k,SP ps a d F k x
 |0,x,.inl e=>⟨0,.inl e⟩
 |0,x,.inr e=>h x e
 |k+1,x,⟨p,e,t,q,hq,r⟩=>let ⟨j,r'⟩:=SP.on h r;⟨j+1,p,e,t,q,hq,r'⟩
theorem zFZ {ps:List Pl} {a n:Int}:gt ps a n≠none↔a<=n/\n<a+(ps.length:Int):=by
 unfold gt
 split
 ·rename_i h
  rw [Ne,List.getElem?_eq_none_iff]
  omega
 ·rename_i h
  simp
  omega
theorem zDo {ps:List Pl} {a n:Int} {p:Pl} (h:gt ps a n=some p):a<=n/\n<a+(ps.length:Int):=zFZ.mp (by rw [h];simp)
theorem gt_l {xs ys:List Pl} {a n:Int} {p:Pl} (h:gt xs a n=some p):gt (xs++ys) a n=some p:=by
 have:=zDo h
 unfold gt at h ⊢
 rw [if_pos this.1] at h ⊢
 rw [List.getElem?_append_left (by omega)]
 exact h
theorem zTJ {xs ys:List Pl} {a n:Int} {p:Pl} (h:gt ys (a+(xs.length:Int)) n=some p):gt (xs++ys) a n=some p:=by
 have:=zDo h
 unfold gt at h ⊢
 rw [if_pos this.1] at h
 rw [if_pos (by omega),List.getElem?_append_right (by omega),<- h]
 congr 1
 omega
theorem zJ7 {xs ys:List Pl} {a n:Int} {p:Pl} (h:gt (xs++ys) a n=some p):gt xs a n=some p\/gt ys (a+(xs.length:Int)) n=some p:=by
 have h1:=zDo h
 rw [List.length_append] at h1
 by_cases c:n<a+(xs.length:Int)
 ·left
  unfold gt at h ⊢
  rw [if_pos h1.1] at h ⊢
  rw [List.getElem?_append_left (by omega)] at h
  exact h
 ·right
  unfold gt at h ⊢
  rw [if_pos h1.1,List.getElem?_append_right (by omega)] at h
  rw [if_pos (by omega),<- h]
  congr 1
  omega
theorem zRT {xs ys:List Pl} {a n:Int} (h:gt (xs++ys) a n≠none):gt xs a n≠none\/gt ys (a+(xs.length:Int)) n≠none:=by
 cases e:gt (xs++ys) a n with
 |none=>exact absurd e h
 |some p=>exact (zJ7 e).imp (λz=>by rw [z];simp) λz=>by rw [z];simp
theorem Sg.app {xs ys:List Pl} {d a b:Int} {Λ:Int->Int} {S Z:Int->Prop} {L1 L2:Int->Int} (hb:b=a+(xs.length:Int)) (h:Sg xs d a Λ S Z L1) (k:Sg ys d b Λ S Z L2):∃ L,Sg (xs++ys) d a Λ S Z L:=by
 subst hb
 refine ⟨λn=>if a<=n/\n<a+(xs.length:Int) then L1 n else L2 n,?_⟩
 have l1:∀ x,gt xs a x≠none\/S x->(if a<=x/\x<a+(xs.length:Int) then L1 x else L2 x)=L1 x:=λx hx=>by
  split
  ·rfl
  ·rename_i c
   rcases hx with hx|hx
   ·exact absurd (zFZ.mp hx) c
   ·rw [h.st x hx,k.st x hx]
 have l2:∀ x,gt ys (a+(xs.length:Int)) x≠none\/S x->(if a<=x/\x<a+(xs.length:Int) then L1 x else L2 x)=L2 x:=λx hx=>by
  split
  ·rename_i c
   rcases hx with hx|hx
   ·have:=zFZ.mp hx;omega
   ·rw [h.st x hx,k.st x hx]
  ·rfl
 have sm:∀ {n:Int} {p:Pl} {ps:List Pl} {c:Int},gt ps c n=some p->gt ps c n≠none:=λe=>by rw [e];simp
 have nl:∀ n,gt xs a n≠none->gt (xs++ys) a n≠none:=λn q=>by
  cases e:gt xs a n with
  |none=>exact absurd e q
  |some p=>rw [gt_l e];simp
 have nr:∀ n,gt ys (a+(xs.length:Int)) n≠none->gt (xs++ys) a n≠none:=λn q=>by
  cases e:gt ys (a+(xs.length:Int)) n with
  |none=>exact absurd e q
  |some p=>rw [zTJ e];simp
 refine ⟨λx hx=>?_,λx hx=>?_,λn p e t q hq=>?_,λn n' p p' e e' t t' hL=>?_,λn p e t=>?_,λn p e q hq=>?_,λn hn=>?_,λn hs hn=>?_,λn hs hn=>?_⟩
 ·have c:¬ (a<=x/\x<a+(xs.length:Int)):=λc=>nl x (zFZ.mpr c) hx
  simp only [if_neg c]
  refine k.out x ?_
  cases e:gt ys (a+(xs.length:Int)) x with
  |none=>rfl
  |some p=>rw [zTJ e] at hx;cases hx
 ·simp only [l1 x (.inr hx)];exact h.st x hx
 ·rcases zJ7 e with e|e
  ·simp only [l1 _ (h.tg n p e q hq),l1 n (.inl (sm e))];exact h.on n p e t q hq
  ·simp only [l2 _ (k.tg n p e q hq),l2 n (.inl (sm e))];exact k.on n p e t q hq
 ·have far:∀ {m m':Int} {r r':Pl},gt xs a m=some r->gt ys (a+(xs.length:Int)) m'=some r'->isT r d=true->isT r' d=true->L1 m≠L2 m':=λ{m m' r r'} q q' s s' z=>by
   have:=zFZ.mp (h.ow m r q s)
   have:=zFZ.mp (k.ow m' r' q' s')
   omega
  rcases zJ7 e with e|e<;>rcases zJ7 e' with e' | e'
  ·simp only [l1 n (.inl (sm e)),l1 n' (.inl (sm e'))] at hL
   obtain ⟨z1,z2⟩:=h.al n n' p p' e e' t t' hL
   refine ⟨z1,λq hq q' hq' ew=>?_⟩
   simp only [l1 _ (h.tg n p e q hq),l1 _ (h.tg n' p' e' q' hq')]
   exact z2 q hq q' hq' ew
  ·simp only [l1 n (.inl (sm e)),l2 n' (.inl (sm e'))] at hL
   exact absurd hL (far e e' t t')
  ·simp only [l2 n (.inl (sm e)),l1 n' (.inl (sm e'))] at hL
   exact absurd hL.symm (far e' e t' t)
  ·simp only [l2 n (.inl (sm e)),l2 n' (.inl (sm e'))] at hL
   obtain ⟨z1,z2⟩:=k.al n n' p p' e e' t t' hL
   refine ⟨z1,λq hq q' hq' ew=>?_⟩
   simp only [l2 _ (k.tg n p e q hq),l2 _ (k.tg n' p' e' q' hq')]
   exact z2 q hq q' hq' ew
 ·rcases zJ7 e with e|e
  ·simp only [l1 n (.inl (sm e))];exact nl _ (h.ow n p e t)
  ·simp only [l2 n (.inl (sm e))];exact nr _ (k.ow n p e t)
 ·rcases zJ7 e with e|e
  ·exact (h.tg n p e q hq).imp (nl _) id
  ·exact (k.tg n p e q hq).imp (nr _) id
 ·rcases zRT hn with q|q
  ·obtain ⟨j,r⟩:=h.ex n q;exact ⟨j,r.mono λ_ _=>gt_l⟩
  ·obtain ⟨j,r⟩:=k.ex n q;exact ⟨j,r.mono λ_ _=>zTJ⟩
 ·rcases zRT hn with q|q
  ·obtain ⟨j,r⟩:=h.sx n hs q;exact ⟨j,r.mono λ_ _=>gt_l⟩
  ·obtain ⟨j,r⟩:=k.sx n hs q;exact ⟨j,r.mono λ_ _=>zTJ⟩
 ·rcases zRT hn with q|q
  ·obtain ⟨j,r⟩:=h.zx n hs q;exact ⟨j,r.mono λ_ _=>gt_l⟩
  ·obtain ⟨j,r⟩:=k.zx n hs q;exact ⟨j,r.mono λ_ _=>zTJ⟩
theorem zTK {p:Pl} {d:Int} {q:Str×Int} (h:tp p d=false) (hq:q∈chs p):isT p d=false:=by
 cases p with
 |fin=>cases hq
 |tell a b ch=>simpa [isT,tp] using h
theorem zTL {p:Pl} {d:Int} (h:isT p d=false):tp p d=false:=by
 cases p with
 |fin=>rfl
 |tell a b ch=>simpa [isT,tp] using h
theorem zMc {ps:List Pl} {n:Int} {p:Pl} (h0:0<=n) (h:ps[n.toNat]?=some p):gt ps 0 n=some p:=by
 unfold gt;rw [if_pos h0,Int.sub_zero];exact h
theorem zPQ {ps:List Pl} {n:Int} {p:Pl} (h:gt ps 0 n=some p):ps[n.toNat]?=some p:=by
 have:=zDo h
 unfold gt at h;rw [if_pos this.1,Int.sub_zero] at h;exact h
theorem SP.pth {ps:List Pl} {d:Int}:∀ {k:Nat} {x:Int},SP ps 0 d (λ_=>False) k x->Pth ps d k x
 |0,x,.inl ⟨p,e,t⟩=>⟨p,zPQ e,t⟩
 |0,x,.inr e=>e.elim
 |k+1,x,⟨p,e,t,q,hq,r⟩=>⟨q.2,by unfold zCm;rw [zPQ e];simp only [zTL t];exact List.mem_map_of_mem hq,SP.pth r⟩
theorem Sg.lab {m:Int} {ps:List Pl} {d:Int} {Λ:Int->Int} {S Z:Int->Prop} {L:Int->Int} (h:Sg ps d 0 Λ S Z L) (hS:∀ x,S x->gt ps 0 x≠none) (hZ:∀ x,Z x->gt ps 0 x≠none) (hd:z9 m ps):Lab ps d L:=by
 refine ⟨λn y c hy=>?_,λn n' p p' h0 h0' e e' t t' hL=>?_,λn h0 h1=>?_⟩
 ·unfold zCm at hy
  split at hy
  ·rename_i p e
   split at hy
   ·cases hy
   ·rename_i t
    obtain ⟨q,hq,rfl⟩:=List.mem_map.mp hy
    have t':tp p d=false:=by simpa using t
    exact h.on n p (zMc c e) (zTK t' hq) q hq
  ·cases hy
 ·exact h.al n n' p p' (zMc h0 e) (zMc h0' e') t t' hL
 ·obtain ⟨k1,r1⟩:=h.ex n (zFZ.mpr (by omega))
  obtain ⟨k2,r2⟩:=r1.on λx hx=>h.sx x hx (hS x hx)
  obtain ⟨k3,r3⟩:=r2.on λx hx=>h.zx x hx (hZ x hx)
  exact ⟨k3,r3.pth⟩
def trn (x:Nat) (s:Shp):Bool:=x == s.1 || x == s.2.1
def ltF (f:Nat->Nat) (t:Nat):Nat:=if t<20 then f t else t
def rch (R:List Shp) (x:Nat):Nat->Nat->Bool
 |0,_=>false
 |k+1,i=>match R[i]? with
  |none=>false
  |some s=>trn x s || s.2.2.any λq=>decide (q.2<20) && rch R x k q.2
def chkT (R:List Shp) (x:Nat) (f:Nat->Nat) (i:Nat) (s:Shp):Bool:=decide (f i<R.length) && (List.range R.length).all λj=>match R[j]? with
 |none=>false
 |some s'=>!(trn x s') || !(f i == f j) || (s.1 == s'.1 && (!(s.1 == x) || (s.2.1 == s'.2.1 && s.2.2.map (·.1) == s'.2.2.map (·.1))) && s.2.2.all λq=>s'.2.2.all λq'=>!(q.1 == q'.1) || ltF f q.2 == ltF f q'.2)
def zPR (R:List Shp) (k n x:Nat) (f:Nat->Nat) (i:Nat) (s:Shp):Bool:=decide (s.1<k) && decide (s.2.1<k) && (s.2.2.all λq=>decide (q.1<n) && (decide (q.2<R.length) || (decide (20<=q.2) && decide (q.2<23)))) &&
 if trn x s then chkT R x f i s else (s.2.2.all λq=>ltF f q.2 == f i) && s.2.2.any λq=>decide (i<q.2)
def chk (R:List Shp) (k n x:Nat) (f:Nat->Nat):Bool:=decide (R.length<20) && decide (0<R.length) && f 0 == 0 && rch R x 20 0 && (List.range R.length).all λi=>match R[i]? with
 |none=>false
 |some s=>zPR R k n x f i s
def lbl (l:Bool) (k x i:Nat):Nat:=if i=0 then 0 else
 let w:=if l then k else k-1
 let j:=(i-1)/w
 let q:=(i-1)%w
 if l then if x=0 then (if q=0 then i else 20+j) else if x=1 then (if q=0 then i+1 else i) else if x=2 then (if q=0 then 0 else if q=1 then 2 else 20+j) else if q<=x-1 then 0 else 20+j
 else if x=0 then i else if x=1 then 20+j else if q<=x-2 then 0 else 20+j
theorem zRU:([1,2,3].all λn=>[1,2,3].all λk=>(List.range (k+1)).all λx=>chk (sh false n k) (k+1) n x (lbl false k x) && (decide (k<2) || chk (sh true n k) (k+1) n x (lbl true k x)))=true:=by decide +kernel
section
variable {R:List Shp} {k n x:Nat} {f:Nat->Nat} {a d:Int} {g dl:List Int} {om:List Str} {Λ:Int->Int} {S Z:Int->Prop}
theorem zF0 (h:chk R k n x f=true) {i:Nat} {s:Shp} (e:R[i]?=some s):zPR R k n x f i s=true:=by
 unfold chk at h
 simp only [Bool.and_eq_true,List.all_eq_true] at h
 have:=h.2 i (List.mem_range.mpr (List.getElem?_eq_some_iff.mp e).1)
 rw [e] at this
 exact this
theorem zGi {α:Type} {l:List α} {z:α} (h:l.Nodup) {i j:Nat} (hi:i<l.length) (hj:j<l.length) (e:l.getD i z=l.getD j z):i=j:=by
 simp only [List.getD,List.getElem?_eq_getElem hi,List.getElem?_eq_getElem hj,Option.getD_some] at e
 exact (List.getElem_inj h).mp e
def dec (a:Int) (g:List Int) (Λ:Int->Int) (l:Nat):Int:=if l<20 then a+(l:Int) else Λ (g.getD (l-20) 0)
theorem zTM (h:chk R k n x f=true) (hx:x<k) (hd:dl.getD x 0=d) (dn:dl.length=k) (dd:dl.Nodup) (wn:om.length=n) (wd:om.Nodup) (hg:∀ i,i<3->S (g.getD i 0)) (ha:Λ a=a) (hS:∀ x,S x->a<=x->x<a+(R.length:Int)->x=a) (hZ:∀ x,Z x->S x) :
  Sg (R.map (emb a g dl om)) d a Λ S Z (λy=>if a<=y/\y<a+(R.length:Int) then dec a g Λ (f (y-a).toNat) else Λ y):=by
 have hc:=h
 unfold chk at hc
 simp only [Bool.and_eq_true,List.all_eq_true,decide_eq_true_eq,beq_iff_eq] at hc
 obtain ⟨⟨⟨⟨hl,hp⟩,f0⟩,hr⟩,_⟩:=hc
 have da:dec a g Λ (f 0)=a:=by rw [f0];simp [dec]
 have gtR:∀ {y:Int} {p:Pl},gt (R.map (emb a g dl om)) a y=some p->∃ (i:Nat) (s:Shp),R[i]?=some s/\y=a+(i:Int)/\p=emb a g dl om s/\i<R.length:=λ{y p} e=>by
  have b:=zDo e
  unfold gt at e
  rw [if_pos b.1,List.getElem?_map] at e
  obtain ⟨s,e1,e2⟩:=Option.map_eq_some_iff.mp e
  exact ⟨_,s,e1,by omega,e2.symm,(List.getElem?_eq_some_iff.mp e1).1⟩
 have gtI:∀ {i:Nat} {s:Shp},R[i]?=some s->gt (R.map (emb a g dl om)) a (a+(i:Int))=some (emb a g dl om s):=λ{i s} e=>by
  unfold gt
  rw [if_pos (by omega),List.getElem?_map,show (a+(i:Int)-a).toNat=i by omega,e]
  rfl
 have gtN:∀ {y:Int},gt (R.map (emb a g dl om)) a y≠none↔a<=y/\y<a+(R.length:Int):=λ{y}=>by rw [zFZ,List.length_map]
 have Li:∀ {i:Nat},i<R.length->(if a<=a+(i:Int)/\a+(i:Int)<a+(R.length:Int) then dec a g Λ (f (a+(i:Int)-a).toNat) else Λ (a+(i:Int)))=dec a g Λ (f i):=λ{i} hi=>by
  rw [if_pos (by omega),show (a+(i:Int)-a).toNat=i by omega]
 have Ls:∀ y,S y->(if a<=y/\y<a+(R.length:Int) then dec a g Λ (f (y-a).toNat) else Λ y)=Λ y:=λy hy=>by
  split
  ·rename_i c
   have:=hS y hy c.1 c.2
   subst this
   rw [show (y-y).toNat=0 by omega,da,ha]
  ·rfl
 have bd:∀ {i:Nat} {s:Shp},R[i]?=some s->s.1<k/\s.2.1<k/\∀ q∈s.2.2,q.1<n/\(q.2<R.length\/(20<=q.2/\q.2<23)):=λ{i s} e=>by
  have c:=zF0 h e
  unfold zPR at c
  simp only [Bool.and_eq_true,List.all_eq_true,decide_eq_true_eq,Bool.or_eq_true] at c
  exact ⟨c.1.1.1,c.1.1.2,c.1.2⟩
 have Lt:∀ {t:Nat},(t<R.length\/(20<=t/\t<23))->(if a<=zFV a g t/\zFV a g t<a+(R.length:Int) then dec a g Λ (f (zFV a g t-a).toNat) else Λ (zFV a g t))=dec a g Λ (ltF f t):=λ{t} ht=>by
  unfold zFV ltF
  rcases ht with ht|ht
  ·rw [if_pos (show t<20 by omega),if_pos (show t<20 by omega)]
   exact Li ht
  ·rw [if_neg (show ¬ t<20 by omega),if_neg (show ¬ t<20 by omega),Ls _ (hg _ (by omega))]
   unfold dec
   rw [if_neg (by omega)]
 have tr:∀ {i:Nat} {s:Shp},R[i]?=some s->isT (emb a g dl om s) d=trn x s:=λ{i s} e=>by
  obtain ⟨b1,b2,_⟩:=bd e
  have one:∀ {j:Nat},j<k->(decide (d=dl.getD j 0))=(x == j):=λ{j} hj=>by
   rw [Bool.beq_eq_decide_eq]
   refine decide_eq_decide.mpr ⟨λz=>zGi dd (by omega) (by omega) (hd.trans z),λz=>by rw [<- z,hd]⟩
  show (decide (d=dl.getD s.1 0) || decide (d=dl.getD s.2.1 0))=_
  rw [one b1,one b2]
  rfl
 have mem:∀ {s:Shp} {q:Str×Int},q∈chs (emb a g dl om s)->∃ r∈s.2.2,q=(om.getD r.1 Str.empty,zFV a g r.2):=λ{s q} hq=>by
  obtain ⟨r,hr,e⟩:=List.mem_map.mp hq
  exact ⟨r,hr,e.symm⟩
 have go:∀ (F:Nat) (E:Int->Prop),(∀ i,i<3->E (g.getD i 0))->∀ i,i<R.length->R.length-i<=F->∃ j,SP (R.map (emb a g dl om)) a d E j (a+(i:Int)):=by
  intro F E hE
  induction F with
  |zero=>intro i hi hF;omega
  |succ F ih=>
   intro i hi hF
   have e:R[i]?=some R[i]:=List.getElem?_eq_getElem hi
   cases t:trn x R[i] with
   |true=>exact ⟨0,.inl ⟨_,gtI e,by rw [tr e];exact t⟩⟩
   |false=>
    have c:=zF0 h e
    unfold zPR at c
    rw [t] at c
    simp only [Bool.and_eq_true,List.all_eq_true,List.any_eq_true,decide_eq_true_eq,Bool.false_eq_true,if_false] at c
    obtain ⟨q,hq,lq⟩:=c.2.2
    have hb:=((bd e).2.2 q hq).2
    have mm:(om.getD q.1 Str.empty,zFV a g q.2)∈chs (emb a g dl om R[i]):=List.mem_map_of_mem (f:=λq:Nat×Nat=>(om.getD q.1 Str.empty,zFV a g q.2)) hq
    rcases hb with hb|hb
    ·obtain ⟨j,r⟩:=ih q.2 hb (by omega)
     refine ⟨j+1,_,gtI e,by rw [tr e];exact t,_,mm,?_⟩
     have:zFV a g q.2=a+(q.2:Int):=by unfold zFV;rw [if_pos (by omega)]
     simp only [this];exact r
    ·refine ⟨1,_,gtI e,by rw [tr e];exact t,_,mm,.inr ?_⟩
     have:zFV a g q.2=g.getD (q.2-20) 0:=by unfold zFV;rw [if_neg (by omega)]
     simp only [this];exact hE _ (by omega)
 have rc:∀ (F i:Nat),rch R x F i=true->∃ j,SP (R.map (emb a g dl om)) a d (λ_=>False) j (a+(i:Int)):=by
  intro F
  induction F with
  |zero=>intro i z;simp [rch] at z
  |succ F ih=>
   intro i z
   unfold rch at z
   split at z
   ·cases z
   ·rename_i s e
    cases t:trn x s with
    |true=>exact ⟨0,.inl ⟨_,gtI e,by rw [tr e];exact t⟩⟩
    |false=>
     rw [t,Bool.false_or,List.any_eq_true] at z
     obtain ⟨q,hq,z⟩:=z
     simp only [Bool.and_eq_true,decide_eq_true_eq] at z
     obtain ⟨j,r⟩:=ih q.2 z.2
     refine ⟨j+1,_,gtI e,by rw [tr e];exact t,(om.getD q.1 Str.empty,zFV a g q.2),List.mem_map_of_mem (f:=λq:Nat×Nat=>(om.getD q.1 Str.empty,zFV a g q.2)) hq,?_⟩
     have:zFV a g q.2=a+(q.2:Int):=by unfold zFV;rw [if_pos z.1]
     simp only [this];exact r
 have rc0:=rc 20 0 hr
 rw [show a+((0:Nat):Int)=a by omega] at rc0
 have wk:∀ {E:Int->Prop} {j:Nat} {y:Int},SP (R.map (emb a g dl om)) a d (λ_=>False) j y->∃ j,SP (R.map (emb a g dl om)) a d E j y:=λr=>r.on λ_ z=>z.elim
 refine ⟨λy hy=>if_neg λc=>gtN.mpr c hy,Ls,λy p e t q hq=>?_,λy y' p p' e e' t t' hL=>?_,λy p e t=>?_,λy p e q hq=>?_,λy hy=>?_,λy hs hy=>?_,λy hs hy=>?_⟩
 ·obtain ⟨i,s,es,rfl,rfl,hi⟩:=gtR e
  obtain ⟨r,hr',rfl⟩:=mem hq
  rw [tr es] at t
  have c:=zF0 h es
  unfold zPR at c
  rw [t] at c
  simp only [Bool.and_eq_true,List.all_eq_true,decide_eq_true_eq,Bool.false_eq_true,if_false,beq_iff_eq] at c
  simp only [Lt ((bd es).2.2 r hr').2,Li hi,c.2.1 r hr']
 ·obtain ⟨i,s,es,rfl,rfl,hi⟩:=gtR e
  obtain ⟨i',s',es',rfl,rfl,hi'⟩:=gtR e'
  rw [tr es] at t
  rw [tr es'] at t'
  simp only [Li hi,Li hi'] at hL
  have c:=zF0 h es
  unfold zPR at c
  rw [t,if_pos rfl] at c
  have c':=zF0 h es'
  unfold zPR at c'
  rw [t',if_pos rfl] at c'
  unfold chkT at c c'
  simp only [Bool.and_eq_true,List.all_eq_true,decide_eq_true_eq] at c c'
  have ef:f i=f i':=by
   unfold dec at hL
   rw [if_pos (by omega),if_pos (by omega)] at hL
   omega
  have z:=c.2.2 i' (List.mem_range.mpr hi')
  rw [es'] at z
  simp only [t',ef,Bool.not_true,beq_self_eq_true,Bool.false_or,Bool.and_eq_true,beq_iff_eq,Bool.or_eq_true,Bool.not_eq_true',beq_eq_false_iff_ne,List.all_eq_true] at z
  obtain ⟨⟨z1,z2⟩,z3⟩:=z
  refine ⟨?_,λq hq q' hq' ew=>?_⟩
  ·show (if dl.getD s.1 0=d then Ask.tells (dl.getD s.2.1 0) ((s.2.2.map λq=>(om.getD q.1 Str.empty,zFV a g q.2)).map (·.1)) else Ask.hears (dl.getD s.1 0))=if dl.getD s'.1 0=d then Ask.tells (dl.getD s'.2.1 0) ((s'.2.2.map λq=>(om.getD q.1 Str.empty,zFV a g q.2)).map (·.1)) else Ask.hears (dl.getD s'.1 0)
   rw [<- z1]
   split
   ·rename_i hq
    have ex:s.1=x:=zGi dd (by have:=(bd es).1;omega) (by omega) (hq.trans hd.symm)
    rcases z2 with z2|⟨z2,z4⟩
    ·exact absurd ex z2
    ·have w:∀ s:Shp,((s.2.2.map λq=>(om.getD q.1 Str.empty,zFV a g q.2)).map (·.1))=(s.2.2.map (·.1)).map λj=>om.getD j Str.empty:=λs=>by simp only [List.map_map];rfl
     rw [<- z2,w,w,z4]
   ·rfl
  ·obtain ⟨r,hr1,rfl⟩:=mem hq
   obtain ⟨r',hr2,rfl⟩:=mem hq'
   have b1:=(bd es).2.2 r hr1
   have b2:=(bd es').2.2 r' hr2
   have er:r.1=r'.1:=zGi wd (by omega) (by omega) ew
   simp only [Lt b1.2,Lt b2.2]
   rcases z3 r hr1 r' hr2 with z|z
   ·exact absurd er z
   ·rw [z]
 ·obtain ⟨i,s,es,rfl,rfl,hi⟩:=gtR e
  rw [tr es] at t
  have c:=zF0 h es
  unfold zPR at c
  rw [t,if_pos rfl] at c
  unfold chkT at c
  simp only [Bool.and_eq_true,decide_eq_true_eq] at c
  rw [gtN]
  simp only [Li hi]
  unfold dec
  rw [if_pos (by omega)]
  omega
 ·obtain ⟨i,s,es,rfl,rfl,hi⟩:=gtR e
  obtain ⟨r,hr',rfl⟩:=mem hq
  unfold zFV
  rcases ((bd es).2.2 r hr').2 with b|b
  ·left;rw [gtN];simp only [if_pos (show r.2<20 by omega)];omega
  ·right;simp only [if_neg (show ¬ r.2<20 by omega)];exact hg _ (by omega)
 ·have b:=gtN.mp hy
  obtain ⟨j,r⟩:=go R.length S hg (y-a).toNat (by omega) (by omega)
  rw [show a+((y-a).toNat:Int)=y by omega] at r
  exact ⟨j,r⟩
 ·have b:=gtN.mp hy
  rw [hS y hs b.1 b.2]
  obtain ⟨j,r⟩:=rc0
  exact wk r
 ·have b:=gtN.mp hy
  rw [hS y (hZ y hs) b.1 b.2]
  exact rc0
end
theorem zPS {p:Pl} {d h:Int} {Λ:Int->Int} {S Z:Int->Prop} (h1:isT p d=false->∀ q∈chs p,Λ q.2=Λ h) (h2:isT p d=true->Λ h=h) (hn:((chs p).map (·.1)).Nodup) (h3:∀ q∈chs p,q.2=h\/S q.2) (h4:isT p d=false->∃ q∈chs p,Z q.2) (hZ:∀ x,Z x->S x) (hh:isT p d=false->¬ Z h):Sg [p] d h Λ S Z Λ:=by
 have g1:gt [p] h h=some p:=by simp [gt]
 have g2:∀ {n:Int} {q:Pl},gt [p] h n=some q->n=h/\q=p:=λ{n q} e=>by
  have b:=zDo e
  simp at b
  have:n=h:=by omega
  subst this
  rw [g1] at e;cases e;exact ⟨rfl,rfl⟩
 have g3:∀ {n:Int},gt [p] h n≠none->n=h:=λ{n} e=>by
  cases q:gt [p] h n with
  |none=>exact absurd q e
  |some r=>exact (g2 q).1
 have pt:∃ k,SP [p] h d Z k h:=by
  cases t:isT p d with
  |true=>exact ⟨0,.inl ⟨p,g1,t⟩⟩
  |false=>obtain ⟨q,hq,z⟩:=h4 t;exact ⟨1,p,g1,t,q,hq,.inr z⟩
 refine ⟨λ_ _=>rfl,λ_ _=>rfl,λn q e t r hr=>?_,λn n' q q' e e' t t' _=>?_,λn q e t=>?_,λn q e r hr=>?_,λn e=>?_,λn _ e=>?_,λn z e=>?_⟩
 ·obtain ⟨rfl,rfl⟩:=g2 e;exact h1 t r hr
 ·obtain ⟨rfl,rfl⟩:=g2 e
  obtain ⟨rfl,rfl⟩:=g2 e'
  refine ⟨rfl,λr hr r' hr' ew=>?_⟩
  obtain ⟨i,hi,ei⟩:=List.mem_iff_getElem.mp hr
  obtain ⟨j,hj,ej⟩:=List.mem_iff_getElem.mp hr'
  have:i=j:=(List.getElem_inj hn (h₀:=by simpa using hi) (h₁:=by simpa using hj)).mp (by simp [ei,ej,ew])
  subst this
  rw [<- ei,<- ej]
 ·obtain ⟨rfl,rfl⟩:=g2 e;rw [h2 t,g1];simp
 ·obtain ⟨rfl,rfl⟩:=g2 e
  rcases h3 r hr with z|z
  ·left;rw [z,g1];simp
  ·exact .inr z
 ·rw [g3 e]
  obtain ⟨k,r⟩:=pt
  exact r.on λx hx=>⟨0,.inr (hZ x hx)⟩
 ·rw [g3 e];exact pt
 ·rw [g3 e] at z ⊢
  cases t:isT p d with
  |true=>exact ⟨0,.inl ⟨p,g1,t⟩⟩
  |false=>exact absurd z (hh t)
theorem zTN {m d:Int} {k:Nat} {dl:List Int} (km:(k:Int)+1=m) (dn:dl.length=k+1) (dd:dl.Nodup) (dm:∀ o∈dl,0<=o/\o<m) (h0:0<=d) (h1:d<m):∃ x,x<k+1/\dl.getD x 0=d:=by
 by_cases h:d∈dl
 ·obtain ⟨i,hi,e⟩:=List.mem_iff_getElem.mp h
  exact ⟨i,by omega,by simp [List.getD,hi,e]⟩
 ·have:=zDB (l:=d::dl) (L:=(List.range (k+1)).map λ(i:Nat)=>(i:Int)) (List.nodup_cons.mpr ⟨h,dd⟩) λx hx=>by
   have b:0<=x/\x<m:=(List.mem_cons.mp hx).elim (λz=>by subst z;exact ⟨h0,h1⟩) (dm x)
   exact List.mem_map.mpr ⟨x.toNat,List.mem_range.mpr (by omega),by omega⟩
  simp at this
  omega
theorem sh_ok {m st:Int} {g:List Int} {ds:List D} {l:Bool} {n k:Nat} {dl:List Int} {om:List Str} (h:ShD m st g ds l n k dl om) {x:Nat} (hx:x<k+1):chk (sh l n k) (k+1) n x (lbl l k x)=true:=by
 have c:=zRU
 have n1:=h.n1
 have k1:=h.k1
 have lk:=h.lk
 rw [List.all_eq_true] at c
 have c:=c n (by have:n=1\/n=2\/n=3:=by omega
                 rcases this with z|z|z<;>simp [z])
 rw [List.all_eq_true] at c
 have c:=c k (by have:k=1\/k=2\/k=3:=by omega
                 rcases this with z|z|z<;>simp [z])
 rw [List.all_eq_true] at c
 have c:=c x (List.mem_range.mpr hx)
 rw [Bool.and_eq_true,Bool.or_eq_true] at c
 cases l with
 |false=>exact c.1
 |true=>
  rcases c.2 with z|z
  ·have:=of_decide_eq_true z;have:=lk rfl;omega
  ·exact z
theorem zTO {m:Int} {S:List Int} {ds:List D} (h:Rds m S ds):ds = []\/(ds.length:Int)∈S:=by
 cases h with
 |nil=>exact .inl rfl
 |snoc _ _ h _ _=>right;rw [List.length_append,Int.natCast_add];exact h
theorem zTP {m:Int} {S:List Int} {d:Int} (h0:0<=d) (h1:d<m) {ds:List D} (h:Rds m S ds) :
  ∃ (ps:List Pl) (TW:List (Int×Int)),ds=ps.map plD/\(∀ t∈TW,t.1∉S/\0<=t.1/\t.1<(ds.length:Int))/\(TW.map (·.1)).Nodup /\
   ∀ (Λ:Int->Int) (H:Int->Prop),(∀ x∈S,Λ x=x)->(∀ t∈TW,H t.1/\Λ t.1=t.2)->(∀ x,H x->0<=x->x<(ds.length:Int)->∃ t∈TW,t.1=x)->∃ L,Sg ps d 0 Λ (λx=>x∈S\/H x) (λx=>x∈S) L:=by
 induction h with
 |nil=>
  refine ⟨[],[],rfl,(λt z=>absurd z (by simp)),List.nodup_nil,λΛ H _ _ _=>⟨Λ,?_⟩⟩
  have g:∀ n,gt [] 0 n=none:=λn=>by simp [gt]
  have g':∀ {n:Int} {p:Pl} {P:Prop},gt [] 0 n=some p->P:=λ{n p P} e=>by rw [g] at e;cases e
  exact ⟨λ_ _=>rfl,λ_ _=>rfl,λn p e=>g' e,λn n' p p' e=>g' e,λn p e=>g' e,λn p e=>g' e,λn e=>absurd (g n) e,λn _ e=>absurd (g n) e,λn _ e=>absurd (g n) e⟩
 |@snoc ds es hR hs he hn hI ih=>
  obtain ⟨ps,TW,rfl,tw,nd,ih⟩:=ih
  rw [List.length_map] at hs he hn hI tw ih
  obtain ⟨xs,g,l,n,k,dl,om,sd,g3,gS,hI⟩:=hI
  obtain ⟨x,hx,hd⟩:=zTN sd.km sd.dn sd.dd sd.dm h0 h1
  have ck:=sh_ok sd hx
  have lx:(xs.length:Int)=((sh l n k).length:Int):=by rw [sd.eq];simp
  have px:0<(sh l n k).length:=by unfold sh;split<;>simp
  obtain ⟨a0,a1,a2,rfl⟩:∃ a b c,g = [a,b,c]:=by
   match g,g3 with
   | [a,b,c],_=>exact ⟨a,b,c,rfl⟩
  have gt3:∀ {P:Int->Prop},P a0->P a1->P a2->∀ i,i<3->P ([a0,a1,a2].getD i 0):=λh0 h1 h2 i hi=>by
   have:i=0\/i=1\/i=2:=by omega
   rcases this with rfl|rfl|rfl
   ·exact h0
   ·exact h1
   ·exact h2
  have s1:a1∈S:=gS a1 (by simp)
  have s2:a2∈S:=gS a2 (by simp)
  rcases hI with ⟨rfl,gA⟩|⟨dd,z,rfl,gh,zS,e,f,ch,rfl,nw,nt,w,hw⟩
  ·refine ⟨ps++(sh l n k).map (emb (ps.length:Int) [a0,a1,a2] dl om),TW,by rw [List.map_append,<- sd.eq],λt ht=>⟨(tw t ht).1,(tw t ht).2.1,by simp;have:=(tw t ht).2.2;omega⟩,nd,λΛ H hS hT hH=>?_⟩
   rw [List.length_append,List.length_map] at hH
   obtain ⟨L1,S1⟩:=ih Λ H hS hT λx hx q0 q1=>hH x hx q0 (by omega)
   refine S1.app (b:=(ps.length:Int)) (by omega) (zTM ck hx hd sd.dn sd.dd sd.wn sd.wd (gt3 (P:=λx=>x∈S\/H x) (.inl (gA a0 (by simp))) (.inl s1) (.inl s2)) (hS _ hs) (λy hy y0 y1=>?_) λ_ z=>.inl z)
   rcases hy with hy|hy
   ·exact hn y hy y0 (by omega)
   ·obtain ⟨t,ht,rfl⟩:=hH y hy (by omega) (by omega)
    have:=(tw t ht).2.2;omega
  ·have ea:a0=(ps.length:Int)+(xs.length:Int):=by simpa using gh
   rw [List.length_append,List.length_singleton] at he hn
   have nh:a0∉S:=λq=>by have:=hn a0 q (by omega) (by omega);omega
   have nz:z≠a0:=λq=>nh (q ▸ zS)
   refine ⟨ps++((sh l n k).map (emb (ps.length:Int) [a0,a1,a2] dl om) ++ [.tell e f ch]),TW ++ [(a0,if isT (.tell e f ch) d then a0 else z)],by rw [List.map_append,List.map_append,<- sd.eq];rfl,λt ht=>?_,?_,λΛ H hS hT hH=>?_⟩
   ·simp only [List.length_append,List.length_map,List.length_singleton]
    rcases List.mem_append.mp ht with ht|ht
    ·have:=tw t ht;exact ⟨this.1,this.2.1,by omega⟩
    ·rw [List.mem_singleton.mp ht];exact ⟨nh,by simp only;omega,by simp only;omega⟩
   ·rw [List.map_append]
    refine List.nodup_append.mpr ⟨nd,by simp,λu hu v hv=>?_⟩
    obtain ⟨t,ht,rfl⟩:=List.mem_map.mp hu
    simp at hv;subst hv
    have:=(tw t ht).2.2;omega
   ·simp only [List.length_append,List.length_map,List.length_singleton] at hH
    obtain ⟨H0,L0⟩:=hT (a0,if isT (.tell e f ch) d then a0 else z) (by simp)
    simp only at H0 L0
    obtain ⟨L1,S1⟩:=ih Λ H hS (λt ht=>hT t (List.mem_append_left _ ht)) λx hx q0 q1=>by
     obtain ⟨t,ht,rfl⟩:=hH x hx q0 (by omega)
     rcases List.mem_append.mp ht with ht|ht
     ·exact ⟨t,ht,rfl⟩
     ·rw [List.mem_singleton.mp ht] at q1;simp only at q1;omega
    have S2:=zTM (a:=(ps.length:Int)) (g:=[a0,a1,a2]) (S:=λx=>x∈S\/H x) (Z:=λx=>x∈S) (Λ:=Λ) ck hx hd sd.dn sd.dd sd.wn sd.wd (gt3 (P:=λx=>x∈S\/H x) (.inr H0) (.inl s1) (.inl s2)) (hS _ hs) (λy hy y0 y1=>by
     rcases hy with hy|hy
     ·exact hn y hy y0 (by omega)
     ·obtain ⟨t,ht,rfl⟩:=hH y hy (by omega) (by omega)
      rcases List.mem_append.mp ht with ht|ht
      ·have:=(tw t ht).2.2;omega
      ·rw [List.mem_singleton.mp ht] at y1;simp only at y1;omega) λ_ z=>.inl z
    have S3:Sg [.tell e f ch] d a0 Λ (λx=>x∈S\/H x) (λx=>x∈S) Λ:=by
     refine zPS (λt q hq=>?_) (λt=>by rw [L0,if_pos t]) nw (λq hq=>?_) (λt=>⟨_,hw,zS⟩) (λ_ z=>.inl z) λ_=>nh
     ·rw [t] at L0
      simp only [Bool.false_eq_true,if_false] at L0
      rcases nt q hq with q1|q1
      ·rw [q1,<- ea]
      ·rw [q1,L0];exact hS z zS
     ·rcases nt q hq with q1|q1
      ·left;rw [q1,ea]
      ·right;left;rw [q1];exact zS
    obtain ⟨L4,S4⟩:=S2.app (b:=a0) (by rw [List.length_map];omega) S3
    exact S1.app (b:=(ps.length:Int)) (by omega) S4
theorem zRV {p q:Pl} (h:plD p=plD q):p=q:=by
 cases p with
 |fin=>cases q with
  |fin=>rfl
  |tell a b ch=>simp [plD] at h
 |tell a b ch=>cases q with
  |fin=>simp [plD] at h
  |tell a' b' ch'=>
   simp only [plD,D.tup.injEq,List.cons.injEq,D.int.injEq,true_and,and_true] at h
   obtain ⟨rfl,rfl,h⟩:=h
   have:∀ {u v:List (Str×Int)},u.map chD=v.map chD->u=v:=λ{u}=>by
    induction u with
    |nil=>intro v e;cases v with
     |nil=>rfl
     |cons _ _=>simp at e
    |cons x u ih=>intro v e;cases v with
     |nil=>simp at e
     |cons y v=>
      simp only [List.map_cons,List.cons.injEq,chD,D.tup.injEq,D.str.injEq,D.int.injEq,and_true] at e
      obtain ⟨⟨e1,e2⟩,e3⟩:=e
      rw [ih e3,Prod.ext e1 e2]
   rw [this h]
theorem zJb:∀ {u v:List Pl},u.map plD=v.map plD->u=v
 | [],[],_=>rfl
 | [],_::_,e=>by simp at e
 |_::_,[],e=>by simp at e
 |x::u,y::v,e=>by
  rw [List.map_cons,List.map_cons,List.cons.injEq] at e
  rw [zRV e.1,zJb e.2]
theorem zOS {m:Int} {rows:List Pl} {S:List Int} {d:Int} (hd:z9 m (rows ++ [.fin])) (hn:rows≠[]) (hS:∀ x∈S,0<=x/\x<=(rows.length:Int)) (h:Rds m S (rows.map plD)) (h0:0<=d) (h1:d<m):∃ L,Lab (rows ++ [.fin]) d L:=by
 have hT:(rows.length:Int)∈S:=by
  rcases zTO h with z|z
  ·simp at z;exact absurd z hn
  ·simpa using z
 obtain ⟨ps,TW,e,tw,nd,k⟩:=zTP h0 h1 h
 have e:=zJb e
 subst e
 rw [List.length_map] at tw k
 have look:∀ {l:List (Int×Int)},(l.map (·.1)).Nodup->∀ t∈l,l.find? (λs=>decide (s.1=t.1))=some t:=λ{l}=>by
  induction l with
  |nil=>intro _ t ht;cases ht
  |cons s l ih=>
   intro nd t ht
   rw [List.map_cons,List.nodup_cons] at nd
   rw [List.find?_cons]
   rcases List.mem_cons.mp ht with rfl|ht
   ·simp
   ·have:s.1≠t.1:=λz=>nd.1 (by rw [z];exact List.mem_map_of_mem ht)
    simp only [this,decide_false]
    exact ih nd.2 t ht
 obtain ⟨L,G⟩:=k (λx=>((TW.find? λs=>decide (s.1=x)).map (·.2)).getD x) (λx=>x∈TW.map (·.1)) (λx hx=>by
  cases q:TW.find? λs=>decide (s.1=x) with
  |none=>rfl
  |some t=>
   have:t.1=x:=by simpa using List.find?_some q
   exact absurd (this ▸ hx) (tw t (List.mem_of_find?_eq_some q)).1) (λt ht=>⟨List.mem_map_of_mem ht,by rw [look nd t ht];rfl⟩) λx hx _ _=>by obtain ⟨t,ht,e⟩:=List.mem_map.mp hx;exact ⟨t,ht,e⟩
 have hT':((TW.find? λs=>decide (s.1=(rows.length:Int))).map (·.2)).getD (rows.length:Int)=(rows.length:Int):=by
  cases q:TW.find? λs=>decide (s.1=(rows.length:Int)) with
  |none=>rfl
  |some t=>
   have:t.1=(rows.length:Int):=by simpa using List.find?_some q
   exact absurd (this ▸ hT) (tw t (List.mem_of_find?_eq_some q)).1
 obtain ⟨L',G'⟩:=G.app (b:=(rows.length:Int)) (by omega) (zPS (p:=.fin) (d:=d) (h:=(rows.length:Int)) (Λ:=λx=>((TW.find? λs=>decide (s.1=x)).map (·.2)).getD x) (S:=λx=>x∈S\/x∈TW.map (·.1)) (Z:=λx=>x∈S) (λt=>by cases t) (λ_=>hT') (by simp [chs]) (λq hq=>by cases hq) (λt=>by cases t) (λ_ z=>.inl z) λt=>by cases t)
 refine ⟨L',G'.lab (λx hx=>zFZ.mpr ?_) (λx hx=>zFZ.mpr ?_) hd⟩
 ·simp only [List.length_append,List.length_singleton]
  rcases hx with hx|hx
  ·have:=hS x hx;omega
  ·obtain ⟨t,ht,rfl⟩:=List.mem_map.mp hx
   have:=(tw t ht).2;omega
 ·simp only [List.length_append,List.length_singleton]
  have:=hS x hx;omega
end LG
namespace K04
open PySem L2 RD LG
def qb:ROb:=(bOr (bB (b2 (b2 (b2 (gR 0) (zN 1) ixO) (gR 3) ixO) (λρ=>((zC (λ_=>some (D.str "end")) zP) ρ).map D.tup) eqO)) (bB (b2 (gV 1) (b3S (b2 (b2 (gR 0) (zN 1) ixO) (gR 3) ixO) (oI (zN 1)) (oI (zN 3)) slD) inO)))
def zDF:ROd:=(gV 3)
abbrev zCn:List Str:=["_law_dance_here","_law_dancer","_law_some"]
def zCo:ROo:=(zAV (λρ=>((zK 1 (iT (gV 2)) (gN 3) qb zDF) ρ).map D.lst))
def qQ (ds:List D):Option D:=zCg zCn zCo ds
def zBb:ROd:=(b2 (gR 8) (zN 0) ixO)
def zAL:ROo:=(sq (qJ 5 (b2 (b2 (gR 0) (zN 1) ixO) (gR 4) ixO)) (sq (qJ 6 (λρ=>((zC (λ_=>some (D.str "end")) zP) ρ).map D.tup)) (sq (sIf (zP6 (bB (b2 (b2 (gR 5) (zN 0) ixO) (λ_=>some (D.str "tell")) eqO)) (bB (b2 (b2 (gR 5) (zN 1) ixO) (gR 1) eqO))) (sq (qJ 7 λρ=>((zK 1 (iT (b2 (gR 5) (zN 3) ixO)) (gN 8) (λ_=>some true) zBb) ρ).map D.lst) (qJ 6 (λρ=>((zC (λ_=>some (D.str "tells")) (zC (b2 (gR 5) (zN 2) ixO) (zC (b1 (gR 7) zGH) zP))) ρ).map D.tup))) (sIf (bB (b2 (b2 (gR 5) (zN 0) ixO) (λ_=>some (D.str "tell")) eqO)) (qJ 6 (λρ=>((zC (λ_=>some (D.str "hears")) (zC (b2 (gR 5) (zN 1) ixO) zP)) ρ).map D.tup)) (λρ=>some (Out.nx ρ)))) (sIf (bB (b2 (gV 6) (gR 3) zHo)) (zFn 3 (gV 6)) (λρ=>some (Out.nx ρ))))))
abbrev zCp:List Str:=["_law_dance_here","_law_dancer","_law_turns_here","_law_kinds_here","_law_at","_law_place","_law_kind","_law_words"]
def zBc:ROo:=(sq (qG 3 zP) (sq (zc (iL (gV 2)) (gN 4) zAL) (zAV λρ=>zNL ρ 3)))
def zBd (ds:List D):Option D:=zCg zCp zBc ds
def zDG:ROo:=(zCK (λρ=>((zC (λ_=>some (D.str "rests")) zP) ρ).map D.tup))
def qc:ROo:=(sIf (zOt (zKJ (λρ=>((zC (gV 0) (zC (gV 1) (zC (λρ=>((zC (gV 0) (zC (gV 1) (zC (λρ=>((zC (gV 6) zP) ρ).map D.tup) zP))) ρ).bind yg) zP))) ρ).bind qQ))) (zCK (λ_=>some D.non)) (λρ=>some (Out.nx ρ)))
def zDH:ROo:=(zCK (λρ=>((zC (λ_=>some (D.str "end")) zP) ρ).map D.tup))
def zBe:ROd:=(b2 (gR 11) (zN 0) ixO)
def qd:ROo:=(zQL 7 (zK 1 (iT (b2 (b2 (b2 (gR 0) (zN 1) ixO) (gR 6) ixO) (zN 3) ixO)) (gN 11) (λ_=>some true) zBe))
def zAM:ROb:=(bB (b2 (b2 (gR 11) (zN 0) ixO) (gR 9) eqO))
def zAN:ROd:=(b2 (gR 11) (zN 1) ixO)
def zAO:ROo:=(zQL 10 (zK 1 (iT (b2 (b2 (b2 (gR 0) (zN 1) ixO) (gR 6) ixO) (zN 3) ixO)) (gN 11) zAM zAN))
def qe:ROo:=(sq (qG 10 zP) (sq (zc (iL (gV 4)) (gN 6) zAO) (λρ=>(sq (qJ 10 (λρ=>((zC (gV 0) (zC (gV 1) (zC (gV 10) zP))) ρ).bind yg)) (sq (sIf (bB (b2 (gV 10) (oRd 3) zHo)) (zJ0 3 (gV 10)) (λρ=>some (Out.nx ρ))) (zFn 8 (λρ=>((zC (gV 9) (zC (b2 (oRd 3) (gV 10) zQs) zP)) ρ).map D.tup)))) (frz 10 ρ))))
def zA4:ROo:=(zCK (λρ=>((zC (b2 (b2 (gR 5) (zN 0) ixO) (zN 0) ixO) (zC (b2 (b2 (gR 5) (zN 0) ixO) (zN 1) ixO) (zC (b1 (gR 8) zGH) zP))) ρ).map D.tup))
def zCU:ROo:=(sq (qG 8 zP) (sq (zc (iL (λρ=>((b1F (gR 7) zPD) ρ).map D.lst)) (gN 9) qe) zA4))
def qy:ROo:=(sq (qG 7 zP) (sq (zc (iL (gV 4)) (gN 6) qd) zCU))
def qI:ROo:=(sq (sIf (bB (b2 (b2 (gR 5) (zN 0) ixO) (λρ=>((zC (λ_=>some (D.str "end")) zP) ρ).map D.tup) eqO)) zDH (λρ=>some (Out.nx ρ))) qy)
def qz:ROo:=(sq (zc (iT (gV 2)) (gN 6) qc) qI)
def yk:ROo:=(sq (sIf (bB (b2 (b1 (gR 5) zDX) (zN 1) gtO)) (zCK (λ_=>some D.non)) (λρ=>some (Out.nx ρ))) qz)
def ym:ROo:=(sq (sIf (zOt (zKJ (gR 4))) zDG (λρ=>some (Out.nx ρ))) yk)
def zCV:ROo:=(sq (qJ 5 (λρ=>((zC (gV 0) (zC (gV 1) (zC (gV 4) zP))) ρ).bind zBd)) ym)
abbrev zCq:List Str:=["_law_dance_here","_law_dancer","_law_some","_law_known","_law_turns_here","_law_kinds_here","_law_at","_law_words","_law_pairs","_law_word_here","_law_nexts"]
def qr:ROo:=(sq (qJ 4 (λρ=>((zC (gV 0) (zC (gV 1) (zC (gV 2) zP))) ρ).bind qQ)) zCV)
def yS (ds:List D) (x:Ob):Option (D×Ob):=zRs λa=>zSw zCq qr a ds x
def yz:ROb:=(bB (b2 (b1 (gR 3) zDX) (b1 (gR 2) zDX) ltO))
def yN:ROo:=(sq (zFu 2 4 (aCo (gV 0) (aCo (gV 1) (aCo (b2 (gR 2) (b1 (gR 3) zDX) ixO) zP))) yS) (sq (sIf (bB (b2 (gR 4) (λ_=>some D.non) isO)) (zAV (λ_=>some D.non)) (λρ=>some (Out.nx ρ))) (zFn 3 (gV 4))))
abbrev zDp:List Str:=["_law_dance_here","_law_dancer","_law_known","_law_states","_law_state_here"]
def zCJ:ROo:=(sq (qG 2 (zC (λρ=>((zC (gV 0) (zC (gV 1) (zC (λρ=>((zC (zN 0) zP) ρ).map D.tup) zP))) ρ).bind yg) zP)) (sq (qG 3 zP) (sq (zEq 20000000 yz yN) (zAV (b1 (gR 3) zGH)))))
def zBF (ds:List D):Option D:=zCg zDp zCJ ds
abbrev zAl:List Str:=["_law_dance_here","_law_dancer","_law_found","e"]
def qg:ROo:=(sq (qJ 2 (λ_=>some (D.str "none"))) (sq (zHR 2 3 0 (λρ=>((zC (gV 0) (zC (gV 1) zP)) ρ).bind zAD)) (zAV (gV 2))))
def qh (ds:List D):Option D:=zCg zAl qg ds
def zBf:ROo:=(zFn 2 (λρ=>((zC (λ_=>some (D.str "tell")) (zC (zN 2) (zC (b2 (b2 (b2 (gR 0) (zN 2) zK6) (zN 2) zFk) (gR 3) zKK) (zC (λρ=>((zC (λρ=>((zC (b2 (gR 1) (b2 (b2 (b2 (gR 0) (zN 4) zK6) (zN 2) zFk) (gR 3) zKK) ixO) (zC (zN 3) zP)) ρ).map D.tup) zP) ρ).map D.tup) zP)))) ρ).map D.tup))
abbrev zFB:List Str:=["_law_cell_here","_law_words","_law_places","_law_k"]
def zDI:ROo:=(sq (qJ 1 (λρ=>((b1F (λρ=>((zC (λρ=>((zC (gV 0) (zC (zN 0) zP)) ρ).bind zk) (zC (λρ=>((zC (gV 0) (zC (zN 1) zP)) ρ).bind zk) zP)) ρ).map D.lst) zAq) ρ).map D.lst)) (sq (qG 2 (zC (λρ=>((zC (λ_=>some (D.str "tell")) (zC (zN 0) (zC (zN 1) (zC (λρ=>((zC (λρ=>((zC (b2 (gR 1) (zN 0) ixO) (zC (zN 1) zP)) ρ).map D.tup) (zC (λρ=>((zC (b2 (gR 1) (zN 1) ixO) (zC (zN 2) zP)) ρ).map D.tup) zP)) ρ).map D.tup) zP)))) ρ).map D.tup) zP)) (sq (zc (iR1 (zC (zN 2) zP)) (gN 3) zBf) (zAV (λρ=>((zC (zN 3) (zC (b1 (λρ=>((b2F (gR 2) (λρ=>((zC (λρ=>((zC (λ_=>some (D.str "end")) zP) ρ).map D.tup) (zC (λρ=>((zC (λ_=>some (D.str "end")) zP) ρ).map D.tup) zP)) ρ).map D.lst) zi) ρ).map D.lst) zGH) zP)) ρ).map D.tup)))))
def zAm (ds:List D):Option D:=zCg zFB zDI ds
def zAn:ROo:=(zHJ (λρ=>((zC (gV 0) (zC (gV 1) zP)) ρ).bind zAD) 0 (λ_ ρ=>ρ) (zAV (λ_=>some (D.bl false))))
abbrev zFC:List Str:=["dance","dancer"]
def zDJ:ROo:=(sq (zc (iR1 (zC (b2 (gR 0) (zN 0) ixO) zP)) (gN 1) zAn) (zAV (λ_=>some (D.bl true))))
def zDK (ds:List D):Option D:=zCg zFC zDJ ds
def zFD:ROo:=(sq (qJ 6 (λρ=>((zC (gV 3) (zC (gV 5) zP)) ρ).bind zBF)) (sq (qJ 4 (zOv (gV 4) (b2 (gR 6) (λ_=>some D.non) zQC))) (sIf (bB (b2 (λρ=>((zC (gV 3) (zC (gV 5) zP)) ρ).bind qh) (gR 6) neO)) (zAV (λ_=>some (D.bl false))) (λρ=>some (Out.nx ρ)))))
def zIa:ROo:=(sq (zc (iR1 (zC (b2 (gR 3) (zN 0) ixO) zP)) (gN 5) zFD) (sq (qJ 7 (λρ=>((zC (gV 3) zP) ρ).bind zDK)) (sIf (bOr (zOt (zKJ (b1 (gR 7) (isiO "bool")))) (bOr (bB (b2 (gR 7) (gR 4) neO)) (zP6 (bB (b2 (gR 2) (λ_=>some D.non) isO)) (zOt (zKJ (gR 4)))))) (zAV (λ_=>some (D.bl false))) (λρ=>some (Out.nx ρ)))))
def zFE:ROo:=(sq (qJ 3 (gV 1)) (sq (sIf (bB (b2 (gR 2) (λ_=>some (D.str "sly")) eqO)) (qJ 3 (λρ=>((zC (λρ=>((zC (gV 0) (zC (zN 4) zP)) ρ).bind z6) zP) ρ).bind zAm)) (sIf (bB (b2 (gR 2) (λ_=>some D.non) zQC)) (qJ 3 (λρ=>((zC (gV 1) (zC (gV 2) zP)) ρ).bind yx)) (λρ=>some (Out.nx ρ)))) (sq (qJ 4 (λ_=>some (D.bl true))) zIa)))
def zMd:ROo:=(sq (zc (iL (λρ=>((b2F (λρ=>((b2F (λρ=>((zC (λ_=>some D.non) zP) ρ).map D.lst) (λρ=>((b1F (λρ=>((b3S (gR 0) (oI (zN 4)) (oI (zN 9)) slF) ρ).map D.lst) zKL) ρ).map D.lst) zi) ρ).map D.lst) (λρ=>((zC (λ_=>some (D.str "sly")) zP) ρ).map D.lst) zi) ρ).map D.lst)) (gN 2) zFE) (zAV (λ_=>some (D.bl true))))
abbrev zRW:List Str:=["_law_script","_law_dance_here","_law_cell_here","_law_other","_law_fair","_law_dancer","_law_due","_law_told"]
def zOT:ROo:=(sq (qJ 1 (λρ=>((zC (gV 0) zP) ρ).bind zAc)) zMd)
def m_law (ds:List D):Option D:=zCg zRW zOT ds
end K04
namespace LG
open PySem L2 RD
theorem zIb {m:Int} {ps:List Pl} (h:z9 m ps) {d:Int} {s2 s5 s6:Sl} {found ws:List Int} {n:Int} (hf:found.length<=1000) (hw:ws.length<=1000) (hl:ws.getLast?=some n) (hn:0<=n/\n<(ps.length:Int)) :
  ∃ s5' s6',yD [.v (dnD m ps),.v (.int d),s2,.l (found.map D.int),.l (ws.map D.int),s5,s6]=some (.nx [.v (dnD m ps),.v (.int d),s2,.l ((if n∈found then found else found ++ [n]).map D.int),.l ((if n∈found then ws.dropLast else ws.dropLast++zCm ps d n).map D.int),s5',s6']):=by
 obtain ⟨p,hp,e1,e2⟩:=zL8 hn.1 hn.2
 have ok:=h.ok p hp
 have g1:(ws.map D.int)[ws.length-1]?=some (.int n):=by
  rw [List.getElem?_map,<- List.getLast?_eq_getElem?,hl];rfl
 have hd:(ws.map D.int).dropLast=ws.dropLast.map D.int:=by rw [List.map_dropLast]
 have few:=ok.few
 have hl3:(chs p).length<=1000000:=by omega
 have hl4:ws.length-1+(chs p).length<=1000000:=by omega
 have hf2:found.length<16000000:=by omega
 have ni:zHo (.int n) (.lst (found.map D.int))=some (.bl (decide (n∉found))):=by
  have f:∀ a:Int,eqD (.int a) (.int n)=(a == n):=λa=>by unfold eqD;rfl
  unfold zHo
  rw [if_pos (by simp [dep])]
  simp only [List.any_map,Function.comp_def,f]
  congr 2
  by_cases e:n∈found
  ·simp [e]
  ·simp [e]
   intro x hx q
   subst q
   exact e hx
 by_cases hm:n∈found
 ·have ni':zHo (.int n) (.lst (found.map D.int))=some (.bl false):=by rw [ni];simp [hm]
  refine ⟨.v (.int n),s6,?_⟩
  simp only [hm,if_true]
  exists 0,yD,zLJ,g1,ni',hd,ixO
 ·have ni':zHo (.int n) (.lst (found.map D.int))=some (.bl true):=by rw [ni];simp [hm]
  refine ⟨.v (.int n),.v (plD p),?_⟩
  simp only [hm,if_false]
  have e0:ixO (dnD m ps) (.int 1)=some (.tup (ps.map plD)):=by simp only [dnD,ixO,at1]
  have e5:ixO (.tup (ps.map plD)) (.int n)=some (plD p):=e2
  have dn:∀ a:Int,neO (.int d) (.int a)=some (.bl (!decide (d=a))):=λa=>by
   unfold neO;rw [if_pos (by simp [dep])];unfold eqD;rw [Bool.beq_eq_decide_eq]
  cases p with
  |fin=>
   have eo:zCm ps d n = []:=by simp [zCm,e1,chs,tp]
   have x0:ixO (plD .fin) (.int 0)=some (.str "end"):=by simp only [plD,ixO,at0]
   exists 0,yD,zLJ,g1,ni',hd,hf2,e0,e5,x0,eo,zGX,List.map_append
  |tell a b ch=>
   have x0:ixO (plD (.tell a b ch)) (.int 0)=some (.str "tell"):=by simp only [plD,ixO,at0]
   have x1:ixO (plD (.tell a b ch)) (.int 1)=some (.int a):=by simp only [plD,ixO,at1]
   have x2:ixO (plD (.tell a b ch)) (.int 2)=some (.int b):=by simp only [plD,ixO,at2]
   have x3:ixO (plD (.tell a b ch)) (.int 3)=some (.tup (ch.map chD)):=by simp only [plD,ixO,at3]
   simp only [chs] at hl3 hl4
   by_cases ha:d=a
   ·have eo:zCm ps d n = []:=by simp [zCm,e1,chs,tp,ha]
    exists yD,zLJ,g1,ni',hd,hf2,e0,e5,x0,x1,dn,decide_eq_true ha,eo,beq_self_eq_true,List.map_append,eqO,zM,gN,gT,gCs,gNl,zj,zb
   ·by_cases hb:d=b
    ·have eo:zCm ps d n = []:=by simp [zCm,e1,chs,tp,hb]
     exists yD,zLJ,g1,ni',hd,hf2,e0,e5,x0,x1,x2,dn,decide_eq_false ha,decide_eq_true hb,eo,beq_self_eq_true,List.map_append,eqO,zM,gN,gT,gCs,gNl,zj,zb
    ·have eo:zCm ps d n=ch.map (·.2):=by simp [zCm,e1,chs,tp,ha,hb]
     have cs:=zJK [.v (dnD m ps),.v (.int d),s2,.l (found.map D.int ++ [.int n]),.l (ws.dropLast.map D.int),.v (.int n),.v (plD (.tell a b ch))] rfl ch
     unfold yD
     generalize (b2 (gR 7) (zN 1) ixO)=el at cs ⊢
     simp only [List.cons_append,List.nil_append] at cs
     exists zLJ,g1,ni',hd,hf2,e0,e5,x0,x1,x2,x3,dn,decide_eq_false ha,decide_eq_false hb,eo,beq_self_eq_true,List.map_append,hl3,cs,List.length_dropLast,hl4,eqO,gN,gT,gCs,gNl,zj,zb
theorem zTQ {s0 s1 s2 s3 s5 s6:Sl} {ws:List Int}:qC [s0,s1,s2,s3,.l (ws.map D.int),s5,s6]=some (decide (0<ws.length)):=by
 exists 0,qC,ixO
 cases ws<;>simp
theorem zRX {m:Int} {ps:List Pl} (h:z9 m ps) (d:Int):∀ (k:Nat) (found ws f:List Int),Inn ps ws->found.length+unv ps.length found<=40->4*unv ps.length found+ws.length<k->k<=1000->run ps d k found ws=some f ->
  ∀ s2 s5 s6,∃ s5' s6',zAA qC yD k [.v (dnD m ps),.v (.int d),s2,.l (found.map D.int),.l (ws.map D.int),s5,s6]=some (.nx [.v (dnD m ps),.v (.int d),s2,.l (f.map D.int),.l [],s5',s6'])
 |0,_,_,_,_,_,hk,_,_=>by omega
 |k+1,found,ws,f,hi,hf,hk,hk2,hr=>λs2 s5 s6=>by
  unfold run at hr
  cases e:ws.getLast? with
  |none=>
   rw [e] at hr
   cases hr
   have:=zB5 e
   subst this
   exact ⟨s5,s6,zDl zTQ⟩
  |some n=>
   rw [e] at hr
   obtain ⟨ew,hp⟩:=zCH e
   have hn:=hi n (by rw [ew];simp)
   have hi':Inn ps ws.dropLast:=λx hx=>hi x ((List.dropLast_sublist _).subset hx)
   obtain ⟨t5,t6,tA⟩:=zIb h (d:=d) (s2:=s2) (s5:=s5) (s6:=s6) (found:=found) (by omega) (by omega) e hn
   have go:qC [.v (dnD m ps),.v (.int d),s2,.l (found.map D.int),.l (ws.map D.int),s5,s6]=some true:=by rw [zTQ];simp [hp]
   simp only at hr
   by_cases hm:n∈found
   ·simp only [hm,if_true] at tA hr
    obtain ⟨a,b,e'⟩:=zRX h d k found ws.dropLast f hi' hf (by rw [List.length_dropLast];omega) (by omega) hr s2 t5 t6
    exact ⟨a,b,by rw [zB4 go (.inl tA),e']⟩
   ·simp only [hm,if_false] at tA hr
    have u:=zJL (n:=ps.length) hn.1 hn.2 hm
    obtain ⟨o1,o2⟩:=zGY h d n
    obtain ⟨a,b,e'⟩:=zRX h d k (found ++ [n]) (ws.dropLast++zCm ps d n) f (λx hx=>by
     rcases List.mem_append.mp hx with hx|hx
     ·exact hi' x hx
     ·exact o1 x hx) (by simp;omega) (by rw [List.length_append,List.length_dropLast];omega) (by omega) hr s2 t5 t6
    exact ⟨a,b,by rw [zB4 go (.inl tA),e']⟩
theorem zGj {m:Int} {ps:List Pl} (h:z9 m ps) (d:Int) {S:List Int} (hs:Inn ps S) (hl:S.length<=100) {x:D} (hx:x = .lst (S.map D.int)\/x = .tup (S.map D.int)):yg [dnD m ps,.int d,x]=some (zv (apt ps d S)):=by
 obtain ⟨f,e1,e2,_⟩:=zEN h d S hs hl
 have ea:apt ps d S=zA7 f:=by simp [apt,e1]
 have hu:=zPK ps.length []
 have hn:=h.n1
 obtain ⟨a,b,e⟩:=zRX h d 300 [] S f hs (by simp;omega) (by omega) (by omega) e1 (.v x) .un .un
 rw [List.map_nil] at e
 have lx:zKL x=some (S.map D.int):=by rcases hx with rfl|rfl<;>rfl
 have so:=zHX (l:=f) (by omega)
 show (zBW [.v (dnD m ps),.v (.int d),.v x,.un,.un,.un,.un]).bind _=_
 unfold zBW
 rw [zf (ρ':=[.v (dnD m ps),.v (.int d),.v x,.l [],.un,.un,.un]) rfl,zf (ρ':=[.v (dnD m ps),.v (.int d),.v x,.l [],.l (S.map D.int),.un,.un]) ?g1,zf (F:=zEq 300 qC yD) e,zL4 (d:=zv (zA7 f)) ?g2,ea]
 ·rfl
 case g1=>
  rcases hx with rfl|rfl<;>rfl
 case g2=>
  show (Option.map D.lst (Option.bind (some (D.lst (f.map D.int))) zAq)).bind zGH=_
  rw [Option.bind_some,show zAq (.lst (f.map D.int))=zEk (.lst (f.map D.int)) from rfl,so]
  rfl
end LG
namespace K04
open PySem L2 RD LG
def pAt (ps:List Pl) (n:Int):Pl:=(ps[n.toNat]?).getD .fin
def zAw (ps:List Pl) (d:Int) (S:List Int):List Int:=S.filter λn=>isT (pAt ps n) d
theorem zFF {ps:List Pl} {n:Int} (h0:0<=n) (h1:n<(ps.length:Int)):ps[n.toNat]?=some (pAt ps n)/\atI (ps.map plD) n=some (plD (pAt ps n)):=by
 obtain ⟨p,_,e1,e2⟩:=zL8 h0 h1
 unfold pAt
 rw [e1]
 exact ⟨rfl,e2⟩
theorem zB9 {ps:List Pl} {d:Int}:∀ {S:List Int},Inn ps S->turns ps d S=(zAw ps d S).map (pAt ps)
 | [],_=>rfl
 |n::S,h=>by
  have hn:=h n List.mem_cons_self
  have ih:=zB9 (d:=d) (S:=S) λx hx=>h x (List.mem_cons_of_mem _ hx)
  obtain ⟨e1,_⟩:=zFF hn.1 hn.2
  unfold turns zE9 zAw at *
  rw [List.filterMap_cons,e1,List.filter_cons,List.filter_cons]
  split
  ·rw [List.map_cons,ih]
  ·exact ih
theorem zMe {ps:List Pl} {d:Int} {S:List Int} (h:Inn ps S):Inn ps (zAw ps d S):=λn hn=>h n (List.mem_filter.mp hn).1
theorem ix1 {m:Int} {ps:List Pl}:ixO (dnD m ps) (.int 1)=some (.tup (ps.map plD)):=by simp only [dnD,ixO,at1]
theorem zJc {m:Int} {ps:List Pl} (d:Int) {S:List Int} (hi:Inn ps S) (hl:S.length<=1000):qQ [dnD m ps,.int d,.tup (S.map D.int)]=some (.lst ((zAw ps d S).map D.int)):=by
 have cs:zM (gN 3) qb zDF (S.map D.int) [.v (dnD m ps),.v (.int d),.v (.tup (S.map D.int)),.un]=some ((zAw ps d S).map D.int):=by
  refine yc (λn=>isT (pAt ps n) d) D.int S λn hn=>⟨_,rfl,?_,λ_=>rfl⟩
  obtain ⟨e1,e2⟩:=zFF (hi n hn).1 (hi n hn).2
  have e5:ixO (.tup (ps.map plD)) (.int n)=some (plD (pAt ps n)):=e2
  generalize pAt ps n=p at e1 e2 e5 ⊢
  show qb [.v (dnD m ps),.v (.int d),.v (.tup (S.map D.int)),.v (.int n)]=_
  cases p with
  |fin=>
   have ee:eqO (plD .fin) (.tup [.str "end"])=some (.bl true):=by
    unfold eqO;rw [if_pos (Nat.le_trans (Nat.min_le_right _ _) (by simp [dep,depL])),zL9]
   exists qb,ix1,e5,ee,isT,zM,gN,gT,gCs,gNl,zj,zb,neO
  |tell a b ch=>
   have ee:eqO (plD (.tell a b ch)) (.tup [.str "end"])=some (.bl false):=by
    unfold eqO;rw [if_pos (Nat.le_trans (Nat.min_le_right _ _) (by simp [dep,depL])),zL9]
   exists qb,ix1,e5,ee,isT,tp,zM,gN,gT,gCs,gNl,zj,zb,neO
   show ((some (D.tup [.int a,.int b])).bind λy=>inO (.int d) y).bind asB=_
   rw [Option.bind_some,in2]
   rfl
 have z:S.length<=1000000:=by omega
 exists qQ,zCo,z,cs,atI,ixN,ixO,eqO,gN,gT,gCs,gNl,zj,zb,neO
def zIc (l:List Ask):List Ask:=l.foldl (λacc x=>if x∈acc then acc else acc ++ [x]) []
theorem zRY (x:Ask) (acc:List Ask):zHo (zh x) (.lst (acc.map zh))=some (.bl (decide (x∉acc))):=by
 unfold zHo
 rw [if_pos (zMI x)]
 simp only [List.any_map,Function.comp_def,zPL]
 congr 2
 by_cases e:x∈acc
 ·simp [e]
 ·simp [e]
  intro y hy q
  subst q
  exact e hy
theorem zMf {m:Int} {ps:List Pl} (h:z9 m ps) {d n:Int} (hn:0<=n/\n<(ps.length:Int)) {s2 s5 s6 s7:Sl} {acc:List Ask} (hl:acc.length<=1000) :
  ∃ s5' s6' s7',zAL [.v (dnD m ps),.v (.int d),s2,.l (acc.map zh),.v (.int n),s5,s6,s7]=some (.nx [.v (dnD m ps),.v (.int d),s2,.l ((if ask (pAt ps n) d∈acc then acc else acc ++ [ask (pAt ps n) d]).map zh),.v (.int n),s5',s6',s7']):=by
 obtain ⟨e1,e2⟩:=zFF hn.1 hn.2
 have ok:=h.ok _ (List.mem_of_getElem? e1)
 have e5:ixO (.tup (ps.map plD)) (.int n)=some (plD (pAt ps n)):=e2
 generalize pAt ps n=p at e1 e2 e5 ok ⊢
 have l0:acc.length<16000000:=by omega
 have fin:∀ s5 s7,(sIf (bB (b2 (gV 6) (gR 3) zHo)) (zFn 3 (gV 6)) (λρ=>some (Out.nx ρ))) [.v (dnD m ps),.v (.int d),s2,.l (acc.map zh),.v (.int n),s5,.v (zHr p d),s7]=some (.nx [.v (dnD m ps),.v (.int d),s2,.l ((if ask p d∈acc then acc else acc ++ [ask p d]).map zh),.v (.int n),s5,.v (zHr p d),s7]):=λs5 s7=>by
  rw [zIQ]
  have ni:=zRY (ask p d) acc
  by_cases c:ask p d∈acc
  ·rw [decide_eq_false (by simpa using c)] at ni
   simp only [c,if_true]
   exists 0,ni,ixO
  ·rw [decide_eq_true c] at ni
   simp only [c,if_false]
   exists 0,ni,l0,List.map_append,ixO
 unfold zAL
 cases p with
 |fin=>
  have x0:ixO (plD .fin) (.int 0)=some (.str "end"):=by simp only [plD,ixO,at0]
  have es:eqO (.str "end") (.str "tell")=some (.bl false):=by
   unfold eqO;rw [if_pos (by simp [dep])];unfold eqD;rw [zGX]
  refine ⟨_,_,_,(zf (ρ':=[.v (dnD m ps),.v (.int d),s2,.l (acc.map zh),.v (.int n),.v (plD .fin),s6,s7]) ?_).trans ((zf (ρ':=[.v (dnD m ps),.v (.int d),s2,.l (acc.map zh),.v (.int n),.v (plD .fin),.v (zHr .fin d),s7]) rfl).trans ((zf (ρ':=[.v (dnD m ps),.v (.int d),s2,.l (acc.map zh),.v (.int n),.v (plD .fin),.v (zHr .fin d),s7]) ?_).trans (fin _ _)))⟩
  ·exists 0,ix1,e5
  ·exists x0,es,zM,gN,gT,gCs,gNl,zj,zb,neO
 |tell a b ch=>
  have x0:ixO (plD (.tell a b ch)) (.int 0)=some (.str "tell"):=by simp only [plD,ixO,at0]
  have x1:ixO (plD (.tell a b ch)) (.int 1)=some (.int a):=by simp only [plD,ixO,at1]
  have x2:ixO (plD (.tell a b ch)) (.int 2)=some (.int b):=by simp only [plD,ixO,at2]
  have x3:ixO (plD (.tell a b ch)) (.int 3)=some (.tup (ch.map chD)):=by simp only [plD,ixO,at3]
  have es:eqO (.str "tell") (.str "tell")=some (.bl true):=by
   unfold eqO;rw [if_pos (by simp [dep])];unfold eqD;simp
  have ea:eqO (.int a) (.int d)=some (.bl (decide (a=d))):=by
   unfold eqO;rw [if_pos (by simp [dep])];unfold eqD;rw [Bool.beq_eq_decide_eq]
  have l1:ch.length<=1000000:=by have:=ok.l1;omega
  have s1:(qJ 5 (b2 (b2 (gR 0) (zN 1) ixO) (gR 4) ixO)) [.v (dnD m ps),.v (.int d),s2,.l (acc.map zh),.v (.int n),s5,s6,s7]=some (.nx [.v (dnD m ps),.v (.int d),s2,.l (acc.map zh),.v (.int n),.v (plD (.tell a b ch)),s6,s7]):=by
   exists 0,ix1,e5
  by_cases c:a=d
  ·have aq:zHr (.tell a b ch) d = .tup [.str "tells",.int b,.tup (ch.map λq=>.str q.1)]:=if_pos c
   rw [decide_eq_true c] at ea
   have cf:=zGZ (f:=zBb) [.v (dnD m ps),.v (.int d),s2,.l (acc.map zh),.v (.int n),.v (plD (.tell a b ch)),.v (.tup [.str "end"]),s7] ch 8 λq=>by
    exists 0,zBb,chD,at0,ixO
   simp only [List.cons_append,List.nil_append] at cf
   refine ⟨_,_,_,(zf s1).trans ((zf (ρ':=[.v (dnD m ps),.v (.int d),s2,.l (acc.map zh),.v (.int n),.v (plD (.tell a b ch)),.v (.tup [.str "end"]),s7]) rfl).trans ((zf (ρ':=[.v (dnD m ps),.v (.int d),s2,.l (acc.map zh),.v (.int n),.v (plD (.tell a b ch)),.v (zHr (.tell a b ch) d),.v (.lst (ch.map λq=>.str q.1))]) ?_).trans (fin _ _)))⟩
   rw [aq]
   exists x0,x1,x2,x3,es,ea,l1,cf,gN,gT,gCs,gNl,zj,zb,neO
  ·have aq:zHr (.tell a b ch) d = .tup [.str "hears",.int a]:=if_neg c
   rw [decide_eq_false c] at ea
   refine ⟨_,_,_,(zf s1).trans ((zf (ρ':=[.v (dnD m ps),.v (.int d),s2,.l (acc.map zh),.v (.int n),.v (plD (.tell a b ch)),.v (.tup [.str "end"]),s7]) rfl).trans ((zf (ρ':=[.v (dnD m ps),.v (.int d),s2,.l (acc.map zh),.v (.int n),.v (plD (.tell a b ch)),.v (zHr (.tell a b ch) d),s7]) ?_).trans (fin _ _)))⟩
   rw [aq]
   exists x0,x1,es,ea,zM,gN,gT,gCs,gNl,zj,zb,neO
theorem zHe {m:Int} {ps:List Pl} (h:z9 m ps) {d:Int} {s2:Sl}:∀ (T:List Int) (acc:List Ask) (s4 s5 s6 s7:Sl),Inn ps T->acc.length+T.length<=1000 ->
  ∃ s4' s5' s6' s7',zb (gN 4) zAL (T.map D.int) [.v (dnD m ps),.v (.int d),s2,.l (acc.map zh),s4,s5,s6,s7]=some (.nx [.v (dnD m ps),.v (.int d),s2,.l ((T.foldl (λacc n=>if ask (pAt ps n) d∈acc then acc else acc ++ [ask (pAt ps n) d]) acc).map zh),s4',s5',s6',s7'])
 | [],acc,s4,s5,s6,s7,_,_=>⟨s4,s5,s6,s7,rfl⟩
 |n::T,acc,s4,s5,s6,s7,hi,hl=>by
  rw [List.length_cons] at hl
  obtain ⟨t5,t6,t7,e⟩:=zMf h (d:=d) (hi n List.mem_cons_self) (s2:=s2) (s5:=s5) (s6:=s6) (s7:=s7) (acc:=acc) (by omega)
  obtain ⟨u4,u5,u6,u7,e'⟩:=zHe h (d:=d) (s2:=s2) T (if ask (pAt ps n) d∈acc then acc else acc ++ [ask (pAt ps n) d]) (.v (.int n)) t5 t6 t7 (λx hx=>hi x (List.mem_cons_of_mem _ hx)) (by split<;>first|omega|(simp;omega))
  exact ⟨u4,u5,u6,u7,by rw [List.map_cons,qZ rfl e,e',List.foldl_cons]⟩
theorem zOU {m:Int} {ps:List Pl} (h:z9 m ps) (d:Int) {T:List Int} (hi:Inn ps T) (hl:T.length<=1000):zBd [dnD m ps,.int d,.lst (T.map D.int)]=some (.lst ((zIc (T.map λn=>ask (pAt ps n) d)).map zh)):=by
 obtain ⟨a,b,c,e,q⟩:=zHe h (d:=d) (s2:=.v (.lst (T.map D.int))) T [] .un .un .un .un hi (by simpa using hl)
 rw [List.map_nil] at q
 have ed:zIc (T.map λn=>ask (pAt ps n) d)=T.foldl (λacc n=>if ask (pAt ps n) d∈acc then acc else acc ++ [ask (pAt ps n) d]) []:=by unfold zIc;rw [List.foldl_map]
 rw [ed]
 show (zBc [.v (dnD m ps),.v (.int d),.v (.lst (T.map D.int)),.un,.un,.un,.un,.un]).bind _=_
 unfold zBc
 rw [zf (ρ':=[.v (dnD m ps),.v (.int d),.v (.lst (T.map D.int)),.l [],.un,.un,.un,.un]) rfl,zf ((sFor_eq (ds:=T.map D.int) rfl).trans q)]
 rfl
end K04
namespace K04
open PySem L2 RD LG
theorem zJd:∀ (l r:List Int),eqL (l.map D.int) (r.map D.int)=decide (l=r)
 | [],[]=>by simp [eqL]
 | [],_::_=>by simp [eqL]
 |_::_,[]=>by simp [eqL]
 |a::l,b::r=>by
  have e:eqD (.int a) (.int b)=(a == b):=by unfold eqD;rfl
  rw [List.map_cons,List.map_cons,eqL,e,zJd l r,Bool.beq_eq_decide_eq]
  simp [Bool.decide_and]
theorem zPT (A B:List Int):eqD (zv A) (zv B)=decide (A=B):=by
 unfold zv eqD
 exact zJd A B
theorem zMg (A:List Int):dep (zv A)<=20:=by
 have:∀ l:List Int,depL (l.map D.int)<=1:=by
  intro l
  induction l with
  |nil=>simp [depL]
  |cons a l ih=>simp [depL,dep];simpa using ih
 unfold zv
 have:=this A
 simp only [dep]
 omega
theorem zRZ (N:List Int) (Ks:List (List Int)):zHo (zv N) (.lst (Ks.map zv))=some (.bl (decide (N∉Ks))):=by
 unfold zHo
 rw [if_pos (zMg N)]
 simp only [List.any_map,Function.comp_def,zPT]
 congr 2
 by_cases e:N∈Ks
 ·simp [e]
 ·simp [e]
  intro y hy q
  subst q
  exact e hy
theorem zMh {N:List Int}:∀ {Ks:List (List Int)},N∈Ks->(Ks.map zv).findIdx? (λy=>eqD y (zv N))=some (ixOf Ks N)
 | [],h=>by cases h
 |K::Ks,h=>by
  rw [List.map_cons,List.findIdx?_cons,zPT]
  unfold ixOf
  by_cases e:K=N
  ·simp [e]
  ·have hN:N∈Ks:=(List.mem_cons.mp h).resolve_left λz=>e z.symm
   have e':¬ N=K:=λz=>e z.symm
   simp only [e,e',decide_false,Bool.false_eq_true,if_false,zMh hN,Option.map_some]
theorem zOV {N:List Int} {Ks:List (List Int)} (h:N∈Ks):zQs (.lst (Ks.map zv)) (zv N)=some (.int (ixOf Ks N:Int)):=by
 unfold zQs
 rw [if_pos (zMg N)]
 show Option.map _ _=_
 rw [zMh h]
 rfl
theorem zTR (a b:Str):eqO (.str a) (.str b)=some (.bl (decide (a=b))):=by
 unfold eqO;rw [if_pos (by simp [dep])];unfold eqD;rw [Bool.beq_eq_decide_eq]
def zMi (ps:List Pl) (T:List Int):Prop:=∀ n∈T,∃ a b ch,pAt ps n = .tell a b ch
theorem zMj {m:Int} {ps:List Pl} (h:z9 m ps) {n:Int} (hn:0<=n/\n<(ps.length:Int)) {a b:Int} {ch:List (Str×Int)} (hp:pAt ps n = .tell a b ch) {s1 s2 s3 s4 s5 s7 s8:Sl} {w:Str} {acc:List Int} (hl:acc.length<=1000) :
  zAO [.v (dnD m ps),s1,s2,s3,s4,s5,.v (.int n),s7,s8,.v (.str w),.l (acc.map D.int)]=some (.nx [.v (dnD m ps),s1,s2,s3,s4,s5,.v (.int n),s7,s8,.v (.str w),.l ((acc++sel w ch).map D.int)]):=by
 obtain ⟨e1,e2⟩:=zFF hn.1 hn.2
 have ok:=h.ok _ (List.mem_of_getElem? e1)
 rw [hp] at e2 ok
 have e5:ixO (.tup (ps.map plD)) (.int n)=some (plD (.tell a b ch)):=e2
 have x3:ixO (plD (.tell a b ch)) (.int 3)=some (.tup (ch.map chD)):=by simp only [plD,ixO,at3]
 have l1:ch.length<=1000000:=by have:=ok.l1;omega
 have few:ch.length<=3:=ok.l1
 have cs:zM (gN 11) zAM zAN (ch.map chD) [.v (dnD m ps),s1,s2,s3,s4,s5,.v (.int n),s7,s8,.v (.str w),.l (acc.map D.int),.un]=some ((sel w ch).map D.int):=by
  have:=yc (g:=gN 11) (p:=zAM) (f:=zAN) (emb:=chD) (ρ:=[.v (dnD m ps),s1,s2,s3,s4,s5,.v (.int n),s7,s8,.v (.str w),.l (acc.map D.int),.un]) (λq=>decide (q.1=w)) (λq=>D.int q.2) ch λq _=>⟨_,rfl,?_,λ_=>?_⟩
  ·rw [this,sel,List.map_map];rfl
  ·have:=zTR q.1 w
   exists zAM,chD,at0,this,ixO,zM,gN,gT,gCs,gNl,zj,zb,neO
  ·exists 0,zAN,chD,at1,ixO
 have sl:=zIU w ch
 have l4:acc.length+(sel w ch).length<=1000000:=by omega
 exists zAO,zQL,ix1,e5,x3,l1,cs,l4,List.map_append,eqO,gN,gT,gCs,gNl,zj,zb,neO
theorem zRa (w:Str) (xs ys:List (Str×Int)):sel w (xs++ys)=sel w xs++sel w ys:=by unfold sel;rw [List.filter_append,List.map_append]
theorem zHf {m:Int} {ps:List Pl} (h:z9 m ps) {s1 s2 s3 s4 s5 s7 s8:Sl} {w:Str}:∀ (T:List Int) (acc:List Int) (s6:Sl),Inn ps T->zMi ps T->acc.length+3*T.length<=1000 ->
  ∃ s6',zb (gN 6) zAO (T.map D.int) [.v (dnD m ps),s1,s2,s3,s4,s5,s6,s7,s8,.v (.str w),.l (acc.map D.int)]=some (.nx [.v (dnD m ps),s1,s2,s3,s4,s5,s6',s7,s8,.v (.str w),.l ((acc++sel w ((T.map (pAt ps)).flatMap chs)).map D.int)])
 | [],acc,s6,_,_,_=>⟨s6,by simp [zb,sel]⟩
 |n::T,acc,s6,hi,ht,hl=>by
  rw [List.length_cons] at hl
  obtain ⟨a,b,ch,hp⟩:=ht n List.mem_cons_self
  have hn:=hi n List.mem_cons_self
  have e:=zMj h hn hp (s1:=s1) (s2:=s2) (s3:=s3) (s4:=s4) (s5:=s5) (s7:=s7) (s8:=s8) (w:=w) (acc:=acc) (by omega)
  obtain ⟨e1,_⟩:=zFF hn.1 hn.2
  have ok:=h.ok _ (List.mem_of_getElem? e1)
  rw [hp] at ok
  have few:ch.length<=3:=ok.l1
  have sl:=zIU w ch
  obtain ⟨u6,e'⟩:=zHf h (s1:=s1) (s2:=s2) (s3:=s3) (s4:=s4) (s5:=s5) (s7:=s7) (s8:=s8) (w:=w) T (acc++sel w ch) (.v (.int n)) (λx hx=>hi x (List.mem_cons_of_mem _ hx)) (λx hx=>ht x (List.mem_cons_of_mem _ hx)) (by simp;omega)
  refine ⟨u6,?_⟩
  rw [List.map_cons,qZ rfl e,e',List.map_cons,List.flatMap_cons,zRa,hp,List.append_assoc]
  rfl
theorem zJ8 {m:Int} {ps:List Pl} (h:z9 m ps) {d:Int} {c:Option Addr} {s2 s5 s6 s7 s10:Sl} {T:List Int} (hi:Inn ps T) (ht:zMi ps T) (hl:T.length<=100) {w:Str} {Ks:List (List Int)} {prs:List (Str×Int)} {N:List Int}
  (ha:yg [dnD m ps,.int d,.lst ((sel w ((T.map (pAt ps)).flatMap chs)).map D.int)]=some (zv N)) (hk:Ks.length<16000000) (hp:prs.length<16000000) :
  ∃ s6',qe [.v (dnD m ps),.v (.int d),s2,.o c (.p (.l (Ks.map zv))),.v (.lst (T.map D.int)),s5,s6,s7,.l (prs.map chD),.v (.str w),s10] =
   some (.nx [.v (dnD m ps),.v (.int d),s2,.o c (.p (.l ((zA6 Ks N).map zv))),.v (.lst (T.map D.int)),s5,s6',s7,.l ((prs ++ [(w,(ixOf (zA6 Ks N) N:Int))]).map chD),.v (.str w),.v (zv N)]):=by
 obtain ⟨u6,e⟩:=zHf h (s1:=.v (.int d)) (s2:=s2) (s3:=.o c (.p (.l (Ks.map zv)))) (s4:=.v (.lst (T.map D.int))) (s5:=s5) (s7:=s7) (s8:=.l (prs.map chD)) (w:=w) T [] s6 hi ht (by simp;omega)
 rw [List.map_nil,List.nil_append] at e
 refine ⟨u6,?_⟩
 unfold qe
 rw [zf (ρ':=[.v (dnD m ps),.v (.int d),s2,.o c (.p (.l (Ks.map zv))),.v (.lst (T.map D.int)),s5,s6,s7,.l (prs.map chD),.v (.str w),.l []]) rfl,zf ((sFor_eq (ds:=T.map D.int) rfl).trans e)]
 generalize sel w ((T.map (pAt ps)).flatMap chs)=S at ha ⊢
 show sq _ _ [.v (dnD m ps),.v (.int d),s2,.o c (.p (.l (Ks.map zv))),.v (.lst (T.map D.int)),s5,u6,s7,.l (prs.map chD),.v (.str w),.v (.lst (S.map D.int))]=_
 rw [zf (ρ':=[.v (dnD m ps),.v (.int d),s2,.o c (.p (.l (Ks.map zv))),.v (.lst (T.map D.int)),s5,u6,s7,.l (prs.map chD),.v (.str w),.v (zv N)]) ((yw ha).trans rfl)]
 have s1:(sIf (bB (b2 (gV 10) (oRd 3) zHo)) (zJ0 3 (gV 10)) (λρ=>some (Out.nx ρ))) [.v (dnD m ps),.v (.int d),s2,.o c (.p (.l (Ks.map zv))),.v (.lst (T.map D.int)),s5,u6,s7,.l (prs.map chD),.v (.str w),.v (zv N)] =
   some (.nx [.v (dnD m ps),.v (.int d),s2,.o c (.p (.l ((zA6 Ks N).map zv))),.v (.lst (T.map D.int)),s5,u6,s7,.l (prs.map chD),.v (.str w),.v (zv N)]):=by
  have ni:=zRZ N Ks
  by_cases q:N∈Ks
  ·rw [decide_eq_false (by simpa using q)] at ni
   have ea:zA6 Ks N=Ks:=by simp [zA6,q]
   rw [ea]
   exists 0,oRd,zJ0,ni,ixO
  ·rw [decide_eq_true q] at ni
   have ea:zA6 Ks N=Ks ++ [N]:=by simp [zA6,q]
   rw [ea]
   have hk2:(Ks.map zv).length<16000000:=by simpa using hk
   exists 0,oRd,zJ0,ni,hk2,hk,List.map_append,ixO
 rw [zf s1]
 have ix:=zOV (zEQ Ks N)
 have e2:b2 (oRd 3) (gV 10) zQs [.v (dnD m ps),.v (.int d),s2,.o c (.p (.l ((zA6 Ks N).map zv))),.v (.lst (T.map D.int)),s5,u6,s7,.l (prs.map chD),.v (.str w),.v (zv N)]=some (.int (ixOf (zA6 Ks N) N:Int)):=ix
 generalize b2 (oRd 3) (gV 10) zQs=g at e2 ⊢
 exists 0,e2,hp,List.map_append,zPP,ixO
end K04
namespace K04
open PySem L2 RD LG
theorem zOW {F G:ROo} {ρ ρ':Rho} {d:D} (h:F ρ=some (.rm d ρ')):sq F G ρ=some (.rm d ρ'):=by simp only [sq,h,Option.bind_some]
theorem zFG {m:Int} {ps:List Pl} {d:Int} (h:PS m ps d) {K:List Int} (hK:zCL ps K) (hal:zBE ps d K=true) {c:Option Addr} {s5 s7:Sl} {T:List Int} (hT:T=zAw ps d K) (ht:zMi ps T) :
  ∀ (ws:List Str) (Ks:List (List Int)) (prs:List (Str×Int)) (s6 s9 s10:Sl),(∀ w∈ws,w∈wds (zBa ps d K))->Ks.Nodup->(∀ K∈Ks,K∈zMQ ps d)->prs.length+ws.length<16000000 ->
   ∃ r s6' s9' s10',Ks++r=ws.foldl (λKs w=>zA6 Ks (zA3 ps d K w)) Ks/\(∀ w∈ws,zA3 ps d K w∈Ks++r) /\
    zb (gN 9) qe (ws.map D.str) [.v (dnD m ps),.v (.int d),.v (zv K),.o c (.p (.l (Ks.map zv))),.v (.lst (T.map D.int)),s5,s6,s7,.l (prs.map chD),s9,s10] =
     some (.nx [.v (dnD m ps),.v (.int d),.v (zv K),.o c (.p (.l ((Ks++r).map zv))),.v (.lst (T.map D.int)),s5,s6',s7,.l ((prs++ws.map λw=>(w,(ixOf (Ks++r) (zA3 ps d K w):Int))).map chD),s9',s10'])
 | [],Ks,prs,s6,s9,s10,_,hn,hs,_=>⟨[],s6,s9,s10,List.append_nil _,by simp,by simp [zb]⟩
 |w::ws,Ks,prs,s6,s9,s10,hw,hn,hs,hl=>by
  have hw0:=hw w List.mem_cons_self
  obtain ⟨a1,inn,len⟩:=zIV h.dn h.few ⟨h.d0,h.d1⟩ hK hal w hw0
  have hq:(T.map (pAt ps)).flatMap chs=zBa ps d K:=by unfold zBa;rw [zB9 hK.inn,hT]
  have a2:=zGj h.dn d inn (by omega) (x:=.lst ((sel w ((T.map (pAt ps)).flatMap chs)).map D.int)) (.inl (by rw [hq]))
  rw [List.length_cons] at hl
  have kl:=Nat.le_trans (zDB hn hs) (zGd h.few d)
  have hi:Inn ps T:=by rw [hT];exact zMe hK.inn
  have lT:T.length<=100:=by
   have:T.length<=K.length:=by rw [hT];exact List.length_filter_le ..
   have:=hK.len;omega
  obtain ⟨r1,er1⟩:=zJY Ks (zA3 ps d K w)
  obtain ⟨u6,st⟩:=zJ8 h.dn (c:=c) (s2:=.v (zv K)) (s5:=s5) (s6:=s6) (s7:=s7) (s10:=s10) hi ht lT (w:=w) (Ks:=Ks) (prs:=prs) (N:=zA3 ps d K w) a2 (by omega) (by omega)
  have hn1:=zMU (N:=zA3 ps d K w) hn
  have hm1:=zEQ Ks (zA3 ps d K w)
  have hs1:∀ K'∈zA6 Ks (zA3 ps d K w),K'∈zMQ ps d:=λK' hK'=>by
   unfold zA6 at hK'
   split at hK'
   ·exact hs K' hK'
   ·rcases List.mem_append.mp hK' with hK' | hK'
    ·exact hs K' hK'
    ·simp at hK';subst hK';exact a1
  obtain ⟨r,s6',s9',s10',i0,i3,i4⟩:=zFG h hK hal (c:=c) (s5:=s5) (s7:=s7) hT ht ws (zA6 Ks (zA3 ps d K w)) (prs ++ [(w,(ixOf (zA6 Ks (zA3 ps d K w)) (zA3 ps d K w):Int))]) u6 (.v (.str w)) (.v (zv (zA3 ps d K w))) (λv hv=>hw v (List.mem_cons_of_mem _ hv)) hn1 hs1 (by simp;omega)
  have ix:=zEP r hm1
  have i0':zA6 Ks (zA3 ps d K w)++r=(w::ws).foldl (λKs w=>zA6 Ks (zA3 ps d K w)) Ks:=i0
  rw [List.map_cons,qZ rfl st,i4]
  rw [er1] at i0' i3 ix hm1 ⊢
  rw [List.append_assoc] at i0' i3 ix ⊢
  refine ⟨r1++r,s6',s9',s10',i0',λv hv=>?_,?_⟩
  ·rcases List.mem_cons.mp hv with rfl|hv
   ·rw [<- List.append_assoc];exact List.mem_append_left _ hm1
   ·exact i3 v hv
  ·rw [<- ix,List.append_assoc]
   rfl
theorem zGk {x:Ask}:∀ (l acc:List Ask),x∈l.foldl (λacc x=>if x∈acc then acc else acc ++ [x]) acc↔x∈acc\/x∈l
 | [],acc=>by simp
 |y::l,acc=>by
  rw [List.foldl_cons,zGk l]
  by_cases c:y∈acc
  ·simp only [c,if_true,List.mem_cons]
   constructor
   ·rintro (q|q)
    ·exact .inl q
    ·exact .inr (.inr q)
   ·rintro (q|rfl|q)
    ·exact .inl q
    ·exact .inl c
    ·exact .inr q
  ·simp only [c,if_false,List.mem_append,List.mem_cons,List.not_mem_nil,or_false,or_assoc]
theorem zMk:∀ (l acc:List Ask),acc.Nodup->(l.foldl (λacc x=>if x∈acc then acc else acc ++ [x]) acc).Nodup
 | [],acc,h=>h
 |y::l,acc,h=>by
  rw [List.foldl_cons]
  refine zMk l _ ?_
  split
  ·exact h
  ·rename_i c
   exact List.nodup_append.mpr ⟨h,by simp,λa ha b hb=>by simp at hb;subst hb;exact λz=>c (z ▸ ha)⟩
theorem zMl {l:List Ask} {x:Ask} (hx:x∈l) (h:∀ y∈l,y=x):zIc l = [x]:=by
 have nd:(zIc l).Nodup:=zMk l [] List.nodup_nil
 have mm:∀ y,y∈zIc l↔y∈l:=λy=>by unfold zIc;rw [zGk];simp
 match e:zIc l with
 | []=>have:=(mm x).mpr hx;rw [e] at this;cases this
 | [y]=>rw [h y ((mm y).mp (by rw [e];simp))]
 |y::z::r=>
  have h1:=h y ((mm y).mp (by rw [e];simp))
  have h2:=h z ((mm z).mp (by rw [e];simp))
  rw [e] at nd
  simp [h1,h2] at nd
theorem zMm {l:List Ask} {x y:Ask} (hx:x∈l) (hy:y∈l) (n:x≠y):1<(zIc l).length:=by
 have mm:∀ y,y∈zIc l↔y∈l:=λy=>by unfold zIc;rw [zGk];simp
 match e:zIc l with
 | []=>have:=(mm x).mpr hx;rw [e] at this;cases this
 |[z]=>
  have h1:=(mm x).mpr hx
  have h2:=(mm y).mpr hy
  rw [e] at h1 h2
  simp at h1 h2
  exact absurd (h1.trans h2.symm) n
 |_::_::_=>simp
end K04
namespace K04
open PySem L2 RD LG
theorem zRb {g:D->Rho->Option Rho} {F:ROo} {d r:D} {ds:List D} {ρ ρ1 ρ':Rho} (h:g d ρ=some ρ1) (k:F ρ1=some (.rm r ρ')):zb g F (d::ds) ρ=some (.rm r ρ'):=by simp only [zb,h,k,Option.bind_some]
def vain (ps:List Pl) (d n:Int):Bool:=(zAw ps d (apt ps d [n])).isEmpty
theorem zJe {m:Int} {ps:List Pl} (h:z9 m ps) {d n:Int} (hn:0<=n/\n<(ps.length:Int)):vain ps d n=true↔turns ps d (apt ps d [n]) = []:=by
 have hi:Inn ps [n]:=λx hx=>by simp at hx;subst hx;exact hn
 obtain ⟨a1,_⟩:=zCS h d hi (by simp)
 rw [zB9 a1.inn,List.map_eq_nil_iff]
 unfold vain
 rw [List.isEmpty_iff]
theorem vain_step {m:Int} {ps:List Pl} (h:z9 m ps) {d n:Int} (hn:0<=n/\n<(ps.length:Int)) {s2 s3 s4 s5 s7 s8 s9 s10:Sl} :
  qc [.v (dnD m ps),.v (.int d),s2,s3,s4,s5,.v (.int n),s7,s8,s9,s10]=some (if vain ps d n then .rm .non [.v (dnD m ps),.v (.int d),s2,s3,s4,s5,.v (.int n),s7,s8,s9,s10] else .nx [.v (dnD m ps),.v (.int d),s2,s3,s4,s5,.v (.int n),s7,s8,s9,s10]):=by
 have hi:Inn ps [n]:=λx hx=>by simp at hx;subst hx;exact hn
 have a2:=zGj h d hi (by simp) (x:=.tup [.int n]) (.inr rfl)
 obtain ⟨a1,_⟩:=zCS h d hi (by simp)
 have a3:=zJc (m:=m) d a1.inn (by have:=a1.len;omega)
 have a4:qQ [dnD m ps,.int d,zv (apt ps d [n])]=some (.lst ((zAw ps d (apt ps d [n])).map D.int)):=a3
 unfold qc vain
 cases e:zAw ps d (apt ps d [n]) with
 |nil=>
  rw [e] at a4
  exists 0,a2,a4,List.isEmpty_nil,zCK,ixO
 |cons x l=>
  rw [e] at a4
  exists 0,a2,a4,List.isEmpty_cons,List.map_cons,zCK,ixO
theorem zF1 {m:Int} {ps:List Pl} (h:z9 m ps) {d:Int} {s2 s3 s4 s5 s7 s8 s9 s10:Sl}:∀ (S:List Int) (s6:Sl),Inn ps S ->
  ∃ s6',zb (gN 6) qc (S.map D.int) [.v (dnD m ps),.v (.int d),s2,s3,s4,s5,s6,s7,s8,s9,s10]=some (if S.any (vain ps d) then .rm .non [.v (dnD m ps),.v (.int d),s2,s3,s4,s5,s6',s7,s8,s9,s10] else .nx [.v (dnD m ps),.v (.int d),s2,s3,s4,s5,s6',s7,s8,s9,s10])
 | [],s6,_=>⟨s6,rfl⟩
 |n::S,s6,hi=>by
  have e:=vain_step h (d:=d) (hi n List.mem_cons_self) (s2:=s2) (s3:=s3) (s4:=s4) (s5:=s5) (s7:=s7) (s8:=s8) (s9:=s9) (s10:=s10)
  rw [List.any_cons]
  cases v:vain ps d n with
  |true=>
   rw [v] at e
   exact ⟨.v (.int n),by rw [List.map_cons,zRb rfl e];rfl⟩
  |false=>
   rw [v] at e
   obtain ⟨u,e'⟩:=zF1 h (d:=d) (s2:=s2) (s3:=s3) (s4:=s4) (s5:=s5) (s7:=s7) (s8:=s8) (s9:=s9) (s10:=s10) S (.v (.int n)) λx hx=>hi x (List.mem_cons_of_mem _ hx)
   exact ⟨u,by rw [List.map_cons,qZ rfl e,e'];rfl⟩
theorem zMn {m:Int} {ps:List Pl} (h:z9 m ps) {n:Int} (hn:0<=n/\n<(ps.length:Int)) {a b:Int} {ch:List (Str×Int)} (hp:pAt ps n = .tell a b ch) {s1 s2 s3 s4 s5 s8 s9 s10:Sl} {acc:List Str} (hl:acc.length<=1000) :
  qd [.v (dnD m ps),s1,s2,s3,s4,s5,.v (.int n),.l (acc.map D.str),s8,s9,s10]=some (.nx [.v (dnD m ps),s1,s2,s3,s4,s5,.v (.int n),.l ((acc++ch.map (·.1)).map D.str),s8,s9,s10]):=by
 obtain ⟨e1,e2⟩:=zFF hn.1 hn.2
 have ok:=h.ok _ (List.mem_of_getElem? e1)
 rw [hp] at e2 ok
 have e5:ixO (.tup (ps.map plD)) (.int n)=some (plD (.tell a b ch)):=e2
 have x3:ixO (plD (.tell a b ch)) (.int 3)=some (.tup (ch.map chD)):=by simp only [plD,ixO,at3]
 have few:ch.length<=3:=ok.l1
 have l1:ch.length<=1000000:=by omega
 have cf:=zGZ (f:=zBe) [.v (dnD m ps),s1,s2,s3,s4,s5,.v (.int n),.l (acc.map D.str),s8,s9,s10] ch 11 λq=>by
  exists 0,zBe,chD,at0,ixO
 simp only [List.cons_append,List.nil_append] at cf
 have l4:acc.length+ch.length<=1000000:=by omega
 have mm:(ch.map (·.1)).map D.str=ch.map λq=>D.str q.1:=by rw [List.map_map];rfl
 exists qd,zQL,ix1,e5,x3,l1,cf,l4,List.map_append,mm,eqO,gN,gT,gCs,gNl,zj,zb,neO
theorem zHg {m:Int} {ps:List Pl} (h:z9 m ps) {s1 s2 s3 s4 s5 s8 s9 s10:Sl}:∀ (T:List Int) (acc:List Str) (s6:Sl),Inn ps T->zMi ps T->acc.length+3*T.length<=1000 ->
  ∃ s6',zb (gN 6) qd (T.map D.int) [.v (dnD m ps),s1,s2,s3,s4,s5,s6,.l (acc.map D.str),s8,s9,s10]=some (.nx [.v (dnD m ps),s1,s2,s3,s4,s5,s6',.l ((acc++((T.map (pAt ps)).flatMap chs).map (·.1)).map D.str),s8,s9,s10])
 | [],acc,s6,_,_,_=>⟨s6,by simp [zb]⟩
 |n::T,acc,s6,hi,ht,hl=>by
  rw [List.length_cons] at hl
  obtain ⟨a,b,ch,hp⟩:=ht n List.mem_cons_self
  have hn:=hi n List.mem_cons_self
  have e:=zMn h hn hp (s1:=s1) (s2:=s2) (s3:=s3) (s4:=s4) (s5:=s5) (s8:=s8) (s9:=s9) (s10:=s10) (acc:=acc) (by omega)
  obtain ⟨e1,_⟩:=zFF hn.1 hn.2
  have ok:=h.ok _ (List.mem_of_getElem? e1)
  rw [hp] at ok
  have few:ch.length<=3:=ok.l1
  obtain ⟨u6,e'⟩:=zHg h (s1:=s1) (s2:=s2) (s3:=s3) (s4:=s4) (s5:=s5) (s8:=s8) (s9:=s9) (s10:=s10) T (acc++ch.map (·.1)) (.v (.int n)) (λx hx=>hi x (List.mem_cons_of_mem _ hx)) (λx hx=>ht x (List.mem_cons_of_mem _ hx)) (by simp;omega)
  refine ⟨u6,?_⟩
  rw [List.map_cons,qZ rfl e,e',List.map_cons,List.flatMap_cons,hp,List.append_assoc,<- List.map_append]
  rfl
theorem zRc (qs:List (Str×Int)):wds qs=zGR (qs.map (·.1)):=by
 unfold wds zGR
 rw [List.foldl_map]
 rfl
theorem strs_map (l:List Str):RD.zD9 (l.map D.str)=some l:=by
 induction l with
 |nil=>rfl
 |cons x xs ih=>simp [RD.zD9,ih]
end K04
namespace K04
open PySem L2 RD LG
abbrev fr0 (m:Int) (ps:List Pl) (d:Int) (K:List Int) (a:Addr) (Ks:List (List Int)) (s4 s5 s6 s7 s8 s9 s10:Sl):Rho:=[.v (dnD m ps),.v (.int d),.v (zv K),.o (some a) (.p (.l (Ks.map zv))),s4,s5,s6,s7,s8,s9,s10]
theorem zFH {m:Int} {ps:List Pl} {d:Int} {K:List Int} {a:Addr} {Ks:List (List Int)} {s4 s5 s6 s7 s8 s9 s10:Sl} {r:D}:zLt 3 a (.rm r (fr0 m ps d K a Ks s4 s5 s6 s7 s8 s9 s10))=some (r,.p (.l (Ks.map zv))):=by
 simp [zLt,zLs]
theorem sFor_eq {f:ROl} {g:D->Rho->Option Rho} {F:ROo} {ρ:Rho} {ds:List D} {o:Option Out} (h:f ρ=some ds) (k:zb g F ds ρ=o):zc f g F ρ=o:=by unfold zc;rw [h,Option.bind_some,k]
section
variable {m:Int} {ps:List Pl} {d:Int} {K:List Int} {a:Addr} {Ks:List (List Int)}
theorem zJf {r:D×Ob} (h:∀ a,(qr (fr0 m ps d K a Ks .un .un .un .un .un .un .un)).bind (zLt 3 a)=some r):yS [dnD m ps,.int d,zv K] (.p (.l (Ks.map zv)))=some r:=zGP h
theorem zRd (h:z9 m ps) (hK:zCL ps K):qr (fr0 m ps d K a Ks .un .un .un .un .un .un .un)=ym (fr0 m ps d K a Ks (.v (.lst ((zAw ps d K).map D.int))) (.v (.lst ((zIc ((zAw ps d K).map λn=>ask (pAt ps n) d)).map zh))) .un .un .un .un .un):=by
 have lK:=hK.len
 have e1:=zJc (m:=m) d hK.inn (by omega)
 have lT:(zAw ps d K).length<=1000:=Nat.le_trans (List.length_filter_le ..) (by omega)
 have e2:=zOU h d (zMe (d:=d) hK.inn) lT
 unfold qr zCV
 rw [zf (ρ':=fr0 m ps d K a Ks (.v (.lst ((zAw ps d K).map D.int))) .un .un .un .un .un .un) ((yw e1).trans rfl),zf (ρ':=fr0 m ps d K a Ks (.v (.lst ((zAw ps d K).map D.int))) (.v (.lst ((zIc ((zAw ps d K).map λn=>ask (pAt ps n) d)).map zh))) .un .un .un .un .un) ((yw e2).trans rfl)]
theorem zOX (hT:zAw ps d K = []) {s5:Sl}:ym (fr0 m ps d K a Ks (.v (.lst ((zAw ps d K).map D.int))) s5 .un .un .un .un .un)=some (.rm (stD .rests) (fr0 m ps d K a Ks (.v (.lst ((zAw ps d K).map D.int))) s5 .un .un .un .un .un)):=by
 rw [hT]
 unfold ym zDG
 refine zOW ?_
 exists 0,zCK,List.map_nil,ixO
 rfl
theorem zTS (hT:zAw ps d K≠[]) {s5:Sl}:ym (fr0 m ps d K a Ks (.v (.lst ((zAw ps d K).map D.int))) s5 .un .un .un .un .un)=yk (fr0 m ps d K a Ks (.v (.lst ((zAw ps d K).map D.int))) s5 .un .un .un .un .un):=by
 unfold ym
 refine zf ?_
 cases e:zAw ps d K with
 |nil=>exact absurd e hT
 |cons x l=>
  exists 0,zCK,List.map_cons,ixO
  rfl
theorem zTT {s4:Sl} {ks:List Ask} (hk:1<ks.length):yk (fr0 m ps d K a Ks s4 (.v (.lst (ks.map zh))) .un .un .un .un .un)=some (.rm .non (fr0 m ps d K a Ks s4 (.v (.lst (ks.map zh))) .un .un .un .un .un)):=by
 unfold yk
 refine zOW ?_
 exists 0,zCK,List.length_map,ixO
 rw [if_pos (decide_eq_true (by omega))]
theorem st_15 {s4:Sl} {x:Ask}:yk (fr0 m ps d K a Ks s4 (.v (.lst ([x].map zh))) .un .un .un .un .un)=qz (fr0 m ps d K a Ks s4 (.v (.lst ([x].map zh))) .un .un .un .un .un):=by
 unfold yk
 refine zf ?_
 exists 0,zCK,ixO
def zTU:Ask->List (Str×Int)->LG.St
 |.fin,_=>.fin
 |.tells b _,prs=>.act true b prs
 |.hears a,prs=>.act false a prs
theorem zOY {t:Pl} {ts:List Pl} (e:turns ps d K=t::ts):zFz ps d Ks K=zTU (ask t d) (zFY ps d Ks K):=by
 unfold zFz
 rw [e]
 dsimp only
 cases ask t d<;>rfl
theorem st_10 {x:Ask} (hx:x≠.fin) {s4 s6 s7 s9 s10:Sl} {prs:List (Str×Int)}:zA4 (fr0 m ps d K a Ks s4 (.v (.lst [zh x])) s6 s7 (.l (prs.map chD)) s9 s10)=some (.rm (stD (zTU x prs)) (fr0 m ps d K a Ks s4 (.v (.lst [zh x])) s6 s7 (.l (prs.map chD)) s9 s10)):=by
 unfold zA4
 cases x with
 |fin=>exact absurd rfl hx
 |tells b ws=>exists 0,zCK,zh,at0,at1,zTU,stD,ixO
 |hears b=>exists 0,zCK,zh,at0,at1,zTU,stD,ixO
theorem st_12 (h:PS m ps d) (hK:zCL ps K) (hal:zBE ps d K=true) (hn:Ks.Nodup) (hp:∀ K∈Ks,K∈zMQ ps d) {x:Ask} (hx:x≠.fin) (hT:∀ n∈zAw ps d K,ask (pAt ps n) d=x) (s6:Sl) :
  (qy (fr0 m ps d K a Ks (.v (.lst ((zAw ps d K).map D.int))) (.v (.lst [zh x])) s6 .un .un .un .un)).bind (zLt 3 a)=some (stD (zTU x (zFY ps d (zAH ps d Ks K) K)),.p (.l ((zAH ps d Ks K).map zv))):=by
 have ht:zMi ps (zAw ps d K):=λn hn=>by
  have:=hT n hn
  cases e:pAt ps n with
  |fin=>rw [e] at this;exact absurd this.symm hx
  |tell a b ch=>exact ⟨a,b,ch,rfl⟩
 have lK:=hK.len
 have lT:(zAw ps d K).length<=K.length:=List.length_filter_le ..
 have hq:((zAw ps d K).map (pAt ps)).flatMap chs=zBa ps d K:=by unfold zBa;rw [zB9 hK.inn]
 have few:=zPO h.few hK hal
 unfold qy
 rw [zf (ρ':=fr0 m ps d K a Ks (.v (.lst ((zAw ps d K).map D.int))) (.v (.lst [zh x])) s6 (.l (([]:List Str).map D.str)) .un .un .un) rfl]
 obtain ⟨u6,e2⟩:=zHg h.dn (s1:=.v (.int d)) (s2:=.v (zv K)) (s3:=.o (some a) (.p (.l (Ks.map zv)))) (s4:=.v (.lst ((zAw ps d K).map D.int))) (s5:=.v (.lst [zh x])) (s8:=.un) (s9:=.un) (s10:=.un) (zAw ps d K) [] s6 (zMe hK.inn) ht (by simp;omega)
 rw [hq,List.nil_append] at e2
 have e3:zc (iL λρ=>zP4 ρ 4) (gN 6) qd (fr0 m ps d K a Ks (.v (.lst ((zAw ps d K).map D.int))) (.v (.lst [zh x])) s6 (.l (([]:List Str).map D.str)) .un .un .un)=_:=e2
 rw [zf e3]
 unfold zCU
 rw [zf (ρ':=fr0 m ps d K a Ks (.v (.lst ((zAw ps d K).map D.int))) (.v (.lst [zh x])) u6 (.l (((zBa ps d K).map (·.1)).map D.str)) (.l (([]:List (Str×Int)).map chD)) .un .un) rfl]
 obtain ⟨r,v6,v9,v10,f1,f2,f3⟩:=zFG h hK hal (c:=some a) (s5:=.v (.lst [zh x])) (s7:=.l (((zBa ps d K).map (·.1)).map D.str)) rfl ht (yo ps d K) Ks [] u6 .un .un (λw hw=>zB8.mp hw) hn hp (by
  have:(yo ps d K).length=(wds (zBa ps d K)).length:=zC8
  have:=zIT (zBa ps d K)
  simp;omega)
 have e4:iL (λρ=>((b1F (gR 7) zPD) ρ).map D.lst) (fr0 m ps d K a Ks (.v (.lst ((zAw ps d K).map D.int))) (.v (.lst [zh x])) u6 (.l (((zBa ps d K).map (·.1)).map D.str)) (.l (([]:List (Str×Int)).map chD)) .un .un)=some ((yo ps d K).map D.str):=by
  have:zPD (.lst (((zBa ps d K).map (·.1)).map D.str))=some ((yo ps d K).map D.str):=by
   unfold zPD
   dsimp only
   rw [if_pos (by simp;omega),strs_map,Option.map_some,<- zRc]
   rfl
  show ((zPD (.lst (((zBa ps d K).map (·.1)).map D.str))).map D.lst).bind asL=_
  rw [this];rfl
 have e5:zc (iL (λρ=>((b1F (gR 7) zPD) ρ).map D.lst)) (gN 9) qe (fr0 m ps d K a Ks (.v (.lst ((zAw ps d K).map D.int))) (.v (.lst [zh x])) u6 (.l (((zBa ps d K).map (·.1)).map D.str)) (.l (([]:List (Str×Int)).map chD)) .un .un)=_:=sFor_eq e4 f3
 rw [zf e5]
 have ea:Ks++r=zAH ps d Ks K:=f1
 rw [List.nil_append,st_10 hx,Option.bind_some,zFH,ea]
 rfl
theorem st_13 {x:Ask} {s4 s6:Sl}:qI (fr0 m ps d K a Ks s4 (.v (.lst [zh x])) s6 .un .un .un .un)=if x = .fin then some (.rm (stD .fin) (fr0 m ps d K a Ks s4 (.v (.lst [zh x])) s6 .un .un .un .un)) else qy (fr0 m ps d K a Ks s4 (.v (.lst [zh x])) s6 .un .un .un .un):=by
 have e:=zMJ x .fin
 unfold qI zDH
 by_cases hx:x = .fin
 ·subst hx
  rw [if_pos rfl]
  refine zOW ?_
  rw [decide_eq_true rfl] at e
  replace e:eqO (zh .fin) (.tup [.str "end"])=some (.bl true):=e
  exists zCK,at0,e,ixO,zM,gN,gT,gCs,gNl,zj,zb,neO
  rfl
 ·rw [if_neg hx]
  refine zf ?_
  rw [decide_eq_false hx] at e
  replace e:eqO (zh x) (.tup [.str "end"])=some (.bl false):=e
  exists zCK,at0,e,ixO,zM,gN,gT,gCs,gNl,zj,zb,neO
theorem st_14 (h:z9 m ps) (hK:zCL ps K) {s4 s5 s6:Sl}:∃ s6',qz (fr0 m ps d K a Ks s4 s5 s6 .un .un .un .un)=if K.any (vain ps d) then some (.rm .non (fr0 m ps d K a Ks s4 s5 s6' .un .un .un .un)) else qI (fr0 m ps d K a Ks s4 s5 s6' .un .un .un .un):=by
 obtain ⟨u,e⟩:=zF1 h (d:=d) (s2:=.v (zv K)) (s3:=.o (some a) (.p (.l (Ks.map zv)))) (s4:=s4) (s5:=s5) (s7:=.un) (s8:=.un) (s9:=.un) (s10:=.un) K s6 hK.inn
 refine ⟨u,?_⟩
 have e':zc (iT λρ=>zP4 ρ 2) (gN 6) qc (fr0 m ps d K a Ks s4 s5 s6 .un .un .un .un)=_:=e
 unfold qz
 cases v:K.any (vain ps d) with
 |true=>rw [v] at e';rw [if_pos rfl];exact zOW e'
 |false=>rw [v] at e';rw [if_neg (by simp)];exact zf e'
theorem zRe {p:Pl} (h:ask p d = .fin):p = .fin:=by
 cases p with
 |fin=>rfl
 |tell a b ch=>unfold LG.ask at h;dsimp only at h;split at h<;>cases h
theorem zOZ (h:PS m ps d) (hK:zCL ps K) (hn:Ks.Nodup) (hp:∀ K∈Ks,K∈zMQ ps d) :
  (Bad ps d K->yS [dnD m ps,.int d,zv K] (.p (.l (Ks.map zv)))=some (.non,.p (.l (Ks.map zv)))) /\
  (¬ Bad ps d K->yS [dnD m ps,.int d,zv K] (.p (.l (Ks.map zv)))=some (stD (zFz ps d (zAH ps d Ks K) K),.p (.l ((zAH ps d Ks K).map zv)))):=by
 have tt:=zB9 (d:=d) hK.inn
 cases e:zAw ps d K with
 |nil=>
  have t0:turns ps d K = []:=by rw [tt,e];rfl
  have a0:zAH ps d Ks K=Ks:=by unfold zAH LG.yo zBa;rw [t0];rfl
  have s0:zFz ps d (zAH ps d Ks K) K = .rests:=by unfold zFz;rw [t0]
  refine ⟨λb=>?_,λ_=>?_⟩
  ·rcases b with b|b
   ·unfold zBE at b;rw [t0] at b;cases b
   ·exact absurd t0 b.1
  ·refine zJf λa=>?_
   rw [zRd h.dn hK,zOX e,Option.bind_some,zFH,s0,a0]
 |cons n T=>
  have t1:turns ps d K=pAt ps n::T.map (pAt ps):=by rw [tt,e];rfl
  have e0:zAw ps d K≠[]:=by rw [e];simp
  have mt:∀ {u},u∈turns ps d K->∃ k∈zAw ps d K,pAt ps k=u:=λ{u} hu=>by rw [tt] at hu;simpa using hu
  by_cases al:zBE ps d K=true
  ·have all:∀ k∈zAw ps d K,ask (pAt ps k) d=ask (pAt ps n) d:=λk hk=>by
    unfold zBE at al
    rw [t1] at al
    have:=List.all_eq_true.mp al (pAt ps k) (by rw [<- t1,tt];exact List.mem_map_of_mem hk)
    exact of_decide_eq_true this
   have k1:zIc ((zAw ps d K).map λn=>ask (pAt ps n) d) = [ask (pAt ps n) d]:=zMl (by rw [e];exact List.mem_cons_self) λy hy=>by
    obtain ⟨k,hk,rfl⟩:=List.mem_map.mp hy
    exact all k hk
   have bad:Bad ps d K↔K.any (vain ps d)=true:=by
    rw [List.any_eq_true]
    constructor
    ·rintro (b|⟨_,k,hk,z⟩)
     ·rw [al] at b;cases b
     ·exact ⟨k,hk,(zJe h.dn (hK.inn k hk)).mpr z⟩
    ·rintro ⟨k,hk,z⟩
     exact .inr ⟨by rw [t1];simp,k,hk,(zJe h.dn (hK.inn k hk)).mp z⟩
   have run:∀ a,∃ s6,qr (fr0 m ps d K a Ks .un .un .un .un .un .un .un)=if K.any (vain ps d) then some (.rm .non (fr0 m ps d K a Ks (.v (.lst ((zAw ps d K).map D.int))) (.v (.lst [zh (ask (pAt ps n) d)])) s6 .un .un .un .un)) else qI (fr0 m ps d K a Ks (.v (.lst ((zAw ps d K).map D.int))) (.v (.lst [zh (ask (pAt ps n) d)])) s6 .un .un .un .un):=λa=>by
    obtain ⟨u,e4⟩:=st_14 h.dn hK (d:=d) (a:=a) (Ks:=Ks) (s4:=.v (.lst ((zAw ps d K).map D.int))) (s5:=.v (.lst [zh (ask (pAt ps n) d)])) (s6:=.un)
    refine ⟨u,?_⟩
    rw [zRd h.dn hK,zTS e0,k1,st_15]
    exact e4
   refine ⟨λb=>zJf λa=>?_,λb=>zJf λa=>?_⟩
   ·obtain ⟨u,r⟩:=run a
    rw [r,if_pos (bad.mp b),Option.bind_some,zFH]
   ·obtain ⟨u,r⟩:=run a
    rw [r,if_neg λz=>b (bad.mpr z),st_13,zOY t1]
    by_cases hx:ask (pAt ps n) d = .fin
    ·have a0:zAH ps d Ks K=Ks:=by
      have:zBa ps d K = []:=List.flatMap_eq_nil_iff.mpr λu hu=>by
       obtain ⟨k,hk,rfl⟩:=mt hu
       rw [zRe ((all k hk).trans hx)]
       rfl
      unfold zAH LG.yo;rw [this];rfl
     rw [if_pos hx,Option.bind_some,zFH,hx,a0]
     rfl
    ·rw [if_neg hx,st_12 h hK al hn hp hx all]
  ·have al':zBE ps d K=false:=by simpa using al
   refine ⟨λ_=>zJf λa=>?_,λb=>absurd (.inl al') b⟩
   have:∃ k∈zAw ps d K,ask (pAt ps k) d≠ask (pAt ps n) d:=Classical.byContradiction λz=>al (by
    unfold zBE
    rw [t1]
    refine List.all_eq_true.mpr λu hu=>decide_eq_true (Classical.byContradiction λy=>z ?_)
    rw [<- t1] at hu
    obtain ⟨k,hk,rfl⟩:=mt hu
    exact ⟨k,hk,y⟩)
   obtain ⟨k,hk,ne⟩:=this
   have k2:=zMm (l:=(zAw ps d K).map λn=>ask (pAt ps n) d) (List.mem_map_of_mem hk) (List.mem_map.mpr ⟨n,by rw [e];exact List.mem_cons_self,rfl⟩) ne
   rw [zRd h.dn hK,zTS e0,zTT k2,Option.bind_some,zFH]
end
end K04
namespace K04
open PySem L2 RD LG
theorem zMo {c:ROb} {F:ROo} {k:Nat} {ρ:Rho} {d:D} (h:c ρ=some true) (e:F ρ=some (.rt d)):zAA c F (k+1) ρ=some (.rt d):=by
 simp only [zAA,h,Option.bind_some,if_true,e]
theorem zMp {i j:Nat} {fl:ROl} {F:List D->Ob->Option (D×Ob)} {ρ:Rho} {xs ys:List D} {ds:List D} {r:D} (h0:ρ[i]?=some (.l xs)) (h1:fl ρ=some ds) (h2:F ds (.p (.l xs))=some (r,.p (.l ys))):zFu i j fl F ρ=some (.nx ((ρ.set i (.l ys)).set j (.v r))):=by
 unfold zFu;rw [h0];dsimp only;rw [h1,Option.bind_some,h2,Option.bind_some]
section
variable {m:Int} {ps:List Pl} {d:Int}
abbrev fp (m:Int) (ps:List Pl) (d:Int) (Ks:List (List Int)) (sts:List LG.St) (s4:Sl):Rho:=[.v (dnD m ps),.v (.int d),.l (Ks.map zv),.l (sts.map stD),s4]
theorem is_st {x:LG.St}:isO (stD x) .non=some (.bl false):=by
 cases x<;>rfl
theorem zPU {Ks Ks':List (List Int)} {sts:List LG.St} {s4:Sl} {r:D} (hl:sts.length<Ks.length) (e:yS [dnD m ps,.int d,zv Ks[sts.length]] (.p (.l (Ks.map zv)))=some (r,.p (.l (Ks'.map zv)))) :
  zFu 2 4 (aCo (gV 0) (aCo (gV 1) (aCo (b2 (gR 2) (b1 (gR 3) zDX) ixO) zP))) yS (fp m ps d Ks sts s4)=some (.nx (fp m ps d Ks' sts (.v r))):=by
 have i1:ixO (.lst (Ks.map zv)) (.int (sts.length:Int))=some (zv Ks[sts.length]):=by
  have:¬ ((sts.length:Int)<0):=by omega
  simp [ixO,atI,ixN,hl]
 refine zMp (ds:=[dnD m ps,.int d,zv Ks[sts.length]]) rfl ?_ e
 exists 0,aCo,i1,List.length_map
theorem zTV {Ks:List (List Int)} {sts:List LG.St} {s4:Sl} (hl:sts.length<Ks.length) (e:yS [dnD m ps,.int d,zv Ks[sts.length]] (.p (.l (Ks.map zv)))=some (.non,.p (.l (Ks.map zv)))):yN (fp m ps d Ks sts s4)=some (.rt .non):=by
 unfold yN
 rw [zf (zPU hl e)]
 rfl
theorem zRf {Ks Ks':List (List Int)} {sts:List LG.St} {s4:Sl} {x:LG.St} (hl:sts.length<Ks.length) (h2:sts.length<16000000) (e:yS [dnD m ps,.int d,zv Ks[sts.length]] (.p (.l (Ks.map zv)))=some (stD x,.p (.l (Ks'.map zv)))):yN (fp m ps d Ks sts s4)=some (.nx (fp m ps d Ks' (sts ++ [x]) (.v (stD x)))):=by
 unfold yN
 have i:=is_st (x:=x)
 rw [zf (zPU hl e),zf (ρ':=fp m ps d Ks' sts (.v (stD x)))]
 ·exists 0,List.length_map,h2,fp,List.map_append,List.map_cons,List.map_nil
 ·cases x<;>rfl
theorem lp_T {Ks:List (List Int)} {sts:List LG.St} {s4:Sl}:yz (fp m ps d Ks sts s4)=some (decide (sts.length<Ks.length)):=by
 exists 0,yz,List.length_map,ixO
 congr 1
 exact decide_eq_decide.mpr (by omega)
theorem zJg (h:PS m ps d) (vs:List Int) (hv:∀ n:Int,0<=n->n<(ps.length:Int)->(n∈vs↔turns ps d (apt ps d [n]) = [])):∀ (n:Nat) (Ks:List (List Int)) (sts:List LG.St) (s4:Sl),zOQ ps d vs Ks sts->8388609<n+sts.length ->
  (zDD ps d n sts.length Ks=none->zAA yz yN n (fp m ps d Ks sts s4)=some (.rt .non)) /\
  ∀ Ks',zDD ps d n sts.length Ks=some Ks'->∃ s4',zAA yz yN n (fp m ps d Ks sts s4)=some (.nx (fp m ps d Ks' (Ks'.map (zFz ps d Ks')) s4'))
 |0,Ks,sts,s4,I,hn=>by have:=I.len h.few;have:=I.le;omega
 |n+1,Ks,sts,s4,I,hn=>by
  have tp:=lp_T (m:=m) (ps:=ps) (d:=d) (Ks:=Ks) (sts:=sts) (s4:=s4)
  by_cases hl:sts.length<Ks.length
  ·rw [decide_eq_true hl] at tp
   have pn:zDD ps d (n+1) sts.length Ks=open Classical in if Bad ps d Ks[sts.length] then none else zDD ps d n (sts.length+1) (zAH ps d Ks Ks[sts.length]):=by rw [zDD,List.getElem?_eq_getElem hl]
   have hm:=List.getElem_mem hl
   obtain ⟨q1,q2⟩:=zOZ h (I.st _ hm) I.nd I.pl
   have kl:=I.len h.few
   rcases zHc h (vs:=vs) I hl hv .un .un .un .un .un .un .un with ⟨b,_⟩|⟨b,r,st,a6,a7,a8,a9,a10,a11,a12,ea,I',_⟩
   ·rw [pn,if_pos b]
    exact ⟨λ_=>zMo tp (zTV hl (q1 b)),λ_ z=>(by cases z)⟩
   ·rw [pn,if_neg b,<- ea]
    have est:st=zFz ps d (Ks++r) Ks[sts.length]:=by
     have:=congrArg (·[sts.length]?) I'.eq
     simp [List.getElem?_append,hl,List.getElem?_take] at this
     exact this
    have g:=q2 b
    rw [<- ea,<- est] at g
    have go:=zRf (s4:=s4) hl (by omega) g
    obtain ⟨k1,k2⟩:=zJg h vs hv n (Ks++r) (sts ++ [st]) (.v (stD st)) I' (by simp;omega)
    rw [List.length_append,List.length_singleton] at k1 k2
    rw [zB4 tp (.inl go)]
    exact ⟨k1,k2⟩
  ·rw [decide_eq_false hl] at tp
   have pn:zDD ps d (n+1) sts.length Ks=some Ks:=by rw [zDD,List.getElem?_eq_none (by omega)]
   rw [pn]
   refine ⟨λz=>(by cases z),λKs' z=>?_⟩
   cases z
   have es:=I.eq
   rw [List.take_of_length_le (by omega)] at es
   refine ⟨s4,?_⟩
   rw [zDl tp,<- es]
theorem zOa (h:PS m ps d):zBF [dnD m ps,.int d]=some (match zDD ps d 20000000 0 [apt ps d [0]] with|none=>.non|some Ks=>zIY ps d Ks):=by
 obtain ⟨vs,hvs,mv⟩:=zPM h.dn d
 have i0:Inn ps [0]:=λn hn=>by simp at hn;subst hn;have:=h.dn.n0;omega
 obtain ⟨s0,_⟩:=zCS h.dn d (S:=[0]) i0 (by simp)
 have a0:=zGj h.dn d i0 (by simp) (x:=.tup [.int 0]) (.inr rfl)
 have ze:apt ps d [0]∈zMQ ps d:=List.mem_cons_self
 have I0:zOQ ps d vs [apt ps d [0]] []:=⟨by simp,λK hK=>by simp at hK;subst hK;exact ze,λK hK=>by simp at hK;subst hK;exact s0,by simp,by simp,by simp⟩
 obtain ⟨k1,k2⟩:=zJg h vs hvs 20000000 [apt ps d [0]] [] .un I0 (by decide)
 have e1:qG 2 (zC (λρ=>((zC (gV 0) (zC (gV 1) (zC (λρ=>((zC (zN 0) zP) ρ).map D.tup) zP))) ρ).bind yg) zP) [.v (dnD m ps),.v (.int d),.un,.un,.un]=some (.nx [.v (dnD m ps),.v (.int d),.l [zv (apt ps d [0])],.un,.un]):=by
  exists 0,a0
 refine zFw ?_
 show zCJ [.v (dnD m ps),.v (.int d),.un,.un,.un]=_
 unfold zCJ
 rw [zf e1,zf (ρ':=fp m ps d [apt ps d [0]] [] .un) rfl]
 cases e:zDD ps d 20000000 0 [apt ps d [0]] with
 |none=>
  have:=k1 e
  rw [zQ9 (F:=zEq 20000000 yz yN) this]
 |some Ks=>
  obtain ⟨s4,k3⟩:=k2 Ks e
  rw [zf (F:=zEq 20000000 yz yN) k3]
  rfl
end
end K04
namespace K04
open PySem L2 RD LG
def duD (ps:List Pl) (d:Int):D:=match zDD ps d 20000000 0 [apt ps d [0]] with
 |none=>.non
 |some Ks=>zIY ps d Ks
def qi (ps:List Pl) (d:Int):Bool:=(zDD ps d 20000000 0 [apt ps d [0]]).isSome
theorem zPV {g:Rho->Option (Except Nat D)} {cc:Nat} {u:D->Rho->Rho} {Fh:ROo} {ρ:Rho} {d:D} (h:g ρ=some (.ok d)):zHJ g cc u Fh ρ=some (.nx (u d ρ)):=by unfold zHJ;rw [h];rfl
theorem zPW {g:Rho->Option (Except Nat D)} {cc:Nat} {u:D->Rho->Rho} {Fh:ROo} {ρ:Rho} (h:g ρ=some (.error cc)):zHJ g cc u Fh ρ=Fh ρ:=by unfold zHJ;rw [h];simp
theorem zPX {i ie cc:Nat} {g:Rho->Option (Except Nat D)} {ρ:Rho} (h:ρ[ie]?=some .un):zHR i ie cc g ρ=zHJ g cc (λd ρ=>ρ.set i (.v d)) (λρ=>some (.nx (ρ.set i (.v .non)))) ρ:=by unfold zHR;rw [h]
theorem zD3 {β:Type} {M:List D->Option β} {A B:ROd} {ρ:Rho} {a b:D} {r:Option β} (h1:A ρ=some a) (h2:B ρ=some b) (h:M [a,b]=r):((zC A (zC B zP)) ρ).bind M=r:=by simp only [zC,h1,h2,Option.bind_some,Option.map_some,h]
theorem zMq {β:Type} {M:List D->Option β} {A:ROd} {ρ:Rho} {a:D} {r:Option β} (h1:A ρ=some a) (h:M [a]=r):((zC A zP) ρ).bind M=r:=by simp only [zC,h1,Option.bind_some,Option.map_some,h]
theorem zOb {c:ROb} {F F':ROo} {ρ:Rho} {r:Option Out} (h:c ρ=some false) (k:F' ρ=r):sIf c F F' ρ=r:=by unfold sIf;rw [h];exact k
theorem zJ9 {A:ROd} {ρ:Rho} {b:Bool} (h:A ρ=some (.bl b)):bB A ρ=some b:=by unfold bB;rw [h];rfl
section
variable {m:Int} {ps:List Pl} {d:Int}
theorem zRg (e:zDD ps d 20000000 0 [apt ps d [0]]=none):duD ps d = .non:=by unfold duD;rw [e]
theorem zRh {Ks:List (List Int)} (e:zDD ps d 20000000 0 [apt ps d [0]]=some Ks):duD ps d=zIY ps d Ks:=by unfold duD;rw [e]
theorem zRi (e:zDD ps d 20000000 0 [apt ps d [0]]=none):qi ps d=false:=by unfold qi;rw [e];rfl
theorem zRj {Ks:List (List Int)} (e:zDD ps d 20000000 0 [apt ps d [0]]=some Ks):qi ps d=true:=by unfold qi;rw [e];rfl
theorem zRk (h:PS m ps d):qh [dnD m ps,.int d]=some (duD ps d):=by
 refine zFw ?_
 show qg [.v (dnD m ps),.v (.int d),.un,.un]=_
 unfold qg
 rw [zf (ρ':=[.v (dnD m ps),.v (.int d),.v (.str "none"),.un]) rfl]
 rcases zGg h with ⟨⟨e0,_⟩,e⟩|⟨Ks,e0,hk,e⟩
 ·rw [zRg e0,zf (ρ':=[.v (dnD m ps),.v (.int d),.v .non,.un]) ((zPX rfl).trans ((zPW (zD3 rfl rfl e)).trans rfl))]
  rfl
 ·rw [zRh e0,zf (ρ':=[.v (dnD m ps),.v (.int d),.v (zIY ps d Ks),.un]) ((zPX rfl).trans ((zPV (zD3 rfl rfl e)).trans rfl))]
  rfl
theorem zMr (h:PS m ps d):zAn [.v (dnD m ps),.v (.int d)]=some (if qi ps d then .nx [.v (dnD m ps),.v (.int d)] else .rt (.bl false)):=by
 unfold zAn
 rcases zGg h with ⟨⟨e0,_⟩,e⟩|⟨Ks,e0,hk,e⟩
 ·rw [zRi e0,if_neg (by simp)]
  exact zPW (zD3 rfl rfl e)
 ·rw [zRj e0,if_pos rfl]
  exact zPV (zD3 rfl rfl e)
theorem zHh (hd:z9 m ps) (hf:Few ps):∀ (is:List Nat) (s1:Sl),(∀ i∈is,(i:Int)<m) ->
  ∃ s1',zb (gN 1) zAn (is.map λ(i:Nat)=>D.int (0+(i:Int))) [.v (dnD m ps),s1]=some (if is.all λ(i:Nat)=>qi ps (i:Int) then .nx [.v (dnD m ps),s1'] else .rt (.bl false))
 | [],s1,_=>⟨s1,rfl⟩
 |i::is,s1,hi=>by
  have st:=zMr (d:=(i:Int)) ⟨hd,hf,by omega,hi i List.mem_cons_self⟩
  rw [List.map_cons,List.all_cons,Int.zero_add]
  cases v:qi ps (i:Int) with
  |true=>
   rw [v] at st
   obtain ⟨u,e⟩:=zHh hd hf is (.v (.int (i:Int))) λj hj=>hi j (List.mem_cons_of_mem _ hj)
   exact ⟨u,by rw [qZ rfl st,e];rfl⟩
  |false=>
   rw [v] at st
   exact ⟨s1,by rw [zRD rfl st];rfl⟩
def zCr (m:Int) (ps:List Pl):Bool:=(List.range m.toNat).all λ(i:Nat)=>qi ps (i:Int)
theorem zTW (hd:z9 m ps) {f:ROl} {ρ:Rho} (h:f ρ=some [.int m]):iR1 f ρ=some ((List.range m.toNat).map λ(i:Nat)=>D.int (0+(i:Int))):=by
 have h0:=hd.m0
 have h1:=hd.m1
 refine zHV (n:=m.toNat) (by rw [h,Int.toNat_of_nonneg (by omega)]) (by omega)
theorem ix0:ixO (dnD m ps) (.int 0)=some (.int m):=by simp only [dnD,ixO,at0]
theorem zMs (hd:z9 m ps):∀ i∈List.range m.toNat,(i:Int)<m:=λi hi=>by
 have:=List.mem_range.mp hi
 have:=hd.m0
 omega
theorem zRl (hd:z9 m ps) (hf:Few ps):zDK [dnD m ps]=some (.bl (zCr m ps)):=by
 refine zFw ?_
 show zDJ [.v (dnD m ps),.un]=_
 obtain ⟨u,e⟩:=zHh hd hf (List.range m.toNat) .un (zMs hd)
 have e1:=sFor_eq (g:=gN 1) (F:=zAn) (zTW hd (f:=zC (b2 (gR 0) (zN 0) ixO) zP) (ρ:=[.v (dnD m ps),.un]) (by exists 0,ix0)) e
 unfold zDJ zCr
 cases v:(List.range m.toNat).all λ(i:Nat)=>qi ps (i:Int) with
 |true=>rw [v] at e1;rw [zf e1];rfl
 |false=>rw [v] at e1;exact zQ9 e1
theorem zGl {α:Type} {f:α->D} {k:Nat} (h:∀ x,dep (f x)<=k):∀ l:List α,depL (l.map f)<=k
 | []=>by simp [depL]
 |x::l=>by have:=h x;have:=zGl h l;simp only [List.map_cons,depL];omega
theorem zTX:dep (duD ps d)<=20:=by
 have d1:∀ q:Str×Int,dep (chD q)<=1:=λq=>by simp [chD,dep,depL]
 have d2:∀ s:LG.St,dep (stD s)<=4:=λs=>by
  cases s with
  |fin=>simp [stD,dep,depL]
  |rests=>simp [stD,dep,depL]
  |act t o prs=>have:=zGl d1 prs;simp only [stD,dep,depL];omega
 unfold duD
 split
 ·simp [dep]
 ·rename_i Ks _
  have:=zGl d2 (Ks.map (zFz ps d Ks))
  unfold zIY
  simp only [dep]
  omega
mutual
theorem zGm:∀ d:D,eqD d d=true
 |.non=>rfl
 |.bl b=>by simp [eqD]
 |.int i=>by simp [eqD]
 |.str s=>by simp [eqD]
 |.tup xs=>by simp only [eqD];exact eqL_self xs
 |.lst xs=>by simp only [eqD];exact eqL_self xs
theorem eqL_self:∀ ds:List D,eqL ds ds=true
 | []=>rfl
 |x::xs=>by simp only [eqL,zGm x,eqL_self xs];rfl
end
theorem ne_du:neO (duD ps d) (duD ps d)=some (.bl false):=by
 unfold neO
 rw [if_pos (Nat.le_trans (Nat.min_le_left _ _) zTX),zGm]
 rfl
theorem zTY:zQC (duD ps d) .non=some (.bl (qi ps d)):=by
 unfold duD qi
 cases zDD ps d 20000000 0 [apt ps d [0]]<;>rfl
theorem zOc (h:PS m ps d):zBF [dnD m ps,.int d]=some (duD ps d):=by
 rw [zOa h]
 unfold duD
 cases zDD ps d 20000000 0 [apt ps d [0]]<;>rfl
theorem law_1 (h:PS m ps d) {s0 s1 s2 s6 s7:Sl} {b:Bool}:zFD [s0,s1,s2,.v (dnD m ps),.v (.bl b),.v (.int d),s6,s7]=some (.nx [s0,s1,s2,.v (dnD m ps),.v (.bl (b && qi ps d)),.v (.int d),.v (duD ps d),s7]):=by
 have e1:=zOc h
 have e2:=zRk h
 have e3:=ne_du (ps:=ps) (d:=d)
 have e4:=zTY (ps:=ps) (d:=d)
 unfold zFD
 rw [zf (ρ':=[s0,s1,s2,.v (dnD m ps),.v (.bl b),.v (.int d),.v (duD ps d),s7]) ((yw (zD3 rfl rfl e1)).trans rfl)]
 have v4:zOv (gV 4) (b2 (gR 6) (λ_=>some D.non) zQC) [s0,s1,s2,.v (dnD m ps),.v (.bl b),.v (.int d),.v (duD ps d),s7]=some (.bl (b && qi ps d)):=by
  cases b
  ·rfl
  ·exact e4
 rw [zf (ρ':=[s0,s1,s2,.v (dnD m ps),.v (.bl (b && qi ps d)),.v (.int d),.v (duD ps d),s7]) ((yw v4).trans rfl)]
 refine zOb (F:=zAV (λ_=>some (D.bl false))) ?_ rfl
 exact zJ9 (zGV (zD3 rfl rfl e2) rfl e3)
theorem zPY (hd:z9 m ps) (hf:Few ps) {s0 s1 s2 s7:Sl}:∀ (is:List Nat) (s5 s6:Sl) (b:Bool),(∀ i∈is,(i:Int)<m) ->
  ∃ s5' s6',zb (gN 5) zFD (is.map λ(i:Nat)=>D.int (0+(i:Int))) [s0,s1,s2,.v (dnD m ps),.v (.bl b),s5,s6,s7]=some (.nx [s0,s1,s2,.v (dnD m ps),.v (.bl (b && is.all λ(i:Nat)=>qi ps (i:Int))),s5',s6',s7])
 | [],s5,s6,b,_=>⟨s5,s6,by simp [zb]⟩
 |i::is,s5,s6,b,hi=>by
  have st:=law_1 (d:=(i:Int)) ⟨hd,hf,by omega,hi i List.mem_cons_self⟩ (s0:=s0) (s1:=s1) (s2:=s2) (s6:=s6) (s7:=s7) (b:=b)
  obtain ⟨u5,u6,e⟩:=zPY hd hf (s0:=s0) (s1:=s1) (s2:=s2) (s7:=s7) is (.v (.int (i:Int))) (.v (duD ps (i:Int))) (b && qi ps (i:Int)) λj hj=>hi j (List.mem_cons_of_mem _ hj)
  refine ⟨u5,u6,?_⟩
  rw [List.map_cons,List.all_cons,Int.zero_add,qZ rfl st,e,Bool.and_assoc]
theorem law_2 (hd:z9 m ps) (hf:Few ps) {s0 s1:Sl} {c:D} {s5 s6 s7:Sl} (hc:(∃ i,c = .int i)\/(∃ s,c = .str s)\/(c = .non/\zCr m ps=true)) :
  ∃ s3' s4' s5' s6' s7',zIa [s0,s1,.v c,.v (dnD m ps),.v (.bl true),s5,s6,s7]=some (.nx [s0,s1,.v c,s3',s4',s5',s6',s7']):=by
 obtain ⟨u5,u6,e⟩:=zPY hd hf (s0:=s0) (s1:=s1) (s2:=.v c) (s7:=s7) (List.range m.toNat) s5 s6 true (zMs hd)
 have e1:=sFor_eq (g:=gN 5) (F:=zFD) (zTW hd (f:=zC (b2 (gR 3) (zN 0) ixO) zP) (ρ:=[s0,s1,.v c,.v (dnD m ps),.v (.bl true),s5,s6,s7]) (by exists 0,ix0)) e
 have fb:(true && (List.range m.toNat).all λ(i:Nat)=>qi ps (i:Int))=zCr m ps:=Bool.true_and _
 rw [fb] at e1
 have e2:=zRl hd hf
 refine ⟨.v (dnD m ps),.v (.bl (zCr m ps)),u5,u6,.v (.bl (zCr m ps)),?_⟩
 unfold zIa
 rw [zf e1,zf (ρ':=[s0,s1,.v c,.v (dnD m ps),.v (.bl (zCr m ps)),u5,u6,.v (.bl (zCr m ps))]) ((yw (zMq rfl e2)).trans rfl)]
 rcases hc with ⟨i,rfl⟩|⟨s,rfl⟩|⟨rfl,hb⟩
 ·cases zCr m ps<;>rfl
 ·cases zCr m ps<;>rfl
 ·rw [hb];rfl
end
end K04
namespace K04
open PySem L2 RD LG
def zOd (w0 w1 w:Str) (b:Int):List Pl:=[.tell 0 1 [(w0,1),(w1,2)],.tell 2 0 [(w0,3)],.tell 2 b [(w,3)],.fin,.fin]
theorem zMt {w0 w1 w:Str} {b:Int} (hr:zAd [w0,w1]) (h0:okW w0) (h1:okW w1) (hw:okW w) (hb:b=0\/b=1):z9 3 (zOd w0 w1 w b)/\Few (zOd w0 w1 w b):=by
 refine ⟨⟨by decide,by decide,by simp [zOd],by simp [zOd],?_⟩,λe h=>?_⟩
 ·intro p hp
  have len:((zOd w0 w1 w b).length:Int)=5:=rfl
  rw [len]
  simp only [zOd,List.mem_cons,List.not_mem_nil,or_false] at hp
  rcases hp with rfl|rfl|rfl|rfl|rfl
  ·exact ⟨by decide,by decide,by decide,by decide,by decide,by simp,by simp,hr,by simp [h0,h1],by simp⟩
  ·exact ⟨by decide,by decide,by decide,by decide,by decide,by simp,by simp,by simp,by simp [h0],by simp⟩
  ·exact ⟨by decide,by decide,by omega,by omega,by omega,by simp,by simp,by simp,by simp [hw],by simp⟩
  ·trivial
  ·trivial
 ·have:=zJ2 e h 0 1
  have:=zJ2 e h 2 0
  have:=zJ2 e h 2 b
  simp only [zOd,List.map_cons,List.map_nil,plD,zCk,zRw,List.length_cons,List.length_nil]
  omega
theorem zTZ (c:Int):∃ ps,zAm [.int c]=some (dnD 3 ps)/\z9 3 ps/\Few ps:=by
 obtain ⟨W,w0,w1,hW,hr,h0,h1,so⟩:=zS2 c
 have x0:=hW 0
 have x1:=hW 1
 have hb:c/2%2=0\/c/2%2=1:=by omega
 have hk:c/4%2=0\/c/4%2=1:=by omega
 have run:∃ w,okW w/\zAm [.int c]=some (dnD 3 (zOd w0 w1 w (c/2%2))):=by
  have e1:((b1F (λρ=>((zC (λρ=>((zC (gV 0) (zC (zN 0) zP)) ρ).bind zk) (zC (λρ=>((zC (gV 0) (zC (zN 1) zP)) ρ).bind zk) zP)) ρ).map D.lst) zAq) [.v (.int c),.un,.un,.un]).map D.lst=some (.lst [.str w0,.str w1]):=by
   exists 0,x0,x1,so
  have st:∀ (k:Int) (acc:List D) (w:Str),(k=0\/k=1)->ixO (.lst [.str w0,.str w1]) (.int (c/4%2*k))=some (.str w)->acc.length<=100->zBf [.v (.int c),.v (.lst [.str w0,.str w1]),.l acc,.v (.int k)]=some (.nx [.v (.int c),.v (.lst [.str w0,.str w1]),.l (acc ++ [plD (.tell 2 (c/2%2*k) [(w,3)])]),.v (.int k)]):=by
   intro k acc w hk' ei ha
   have z1 : -18446744073709551616<k:=by omega
   have z2:k<18446744073709551616:=by omega
   have ha':acc.length<16000000:=by omega
   exists 0,zBf,z1,z2,and_self,or_true,if_true,ei,ha',plD,chD,List.map_cons,List.map_nil
  have fin:∀ w,ixO (.lst [.str w0,.str w1]) (.int (c/4%2*1))=some (.str w)->zAm [.int c]=some (dnD 3 (zOd w0 w1 w (c/2%2))):=by
   intro w ei
   have s0:=st 0 [plD (.tell 0 1 [(w0,1),(w1,2)])] w0 (.inl rfl) (by rw [Int.mul_zero];rfl) (by simp)
   have s1:=st 1 [plD (.tell 0 1 [(w0,1),(w1,2)]),plD (.tell 2 (c/2%2*0) [(w0,3)])] w (.inr rfl) ei (by simp)
   refine zFw ?_
   show zDI [.v (.int c),.un,.un,.un]=_
   unfold zDI
   rw [zf (ρ':=[.v (.int c),.v (.lst [.str w0,.str w1]),.un,.un]) ((yw e1).trans rfl),zf (ρ':=[.v (.int c),.v (.lst [.str w0,.str w1]),.l [plD (.tell 0 1 [(w0,1),(w1,2)])],.un]) rfl]
   have lp:zc (iR1 (zC (zN 2) zP)) (gN 3) zBf [.v (.int c),.v (.lst [.str w0,.str w1]),.l [plD (.tell 0 1 [(w0,1),(w1,2)])],.un]=some (.nx [.v (.int c),.v (.lst [.str w0,.str w1]),.l [plD (.tell 0 1 [(w0,1),(w1,2)]),plD (.tell 2 (c/2%2*0) [(w0,3)]),plD (.tell 2 (c/2%2*1) [(w,3)])],.v (.int 1)]):=by
    refine sFor_eq (ds:=[.int 0,.int 1]) rfl ?_
    rw [qZ rfl s0]
    exact (qZ rfl s1).trans rfl
   rw [zf lp,Int.mul_zero,Int.mul_one]
   rfl
  rcases hk with e|e
  ·exact ⟨w0,h0,fin w0 (by rw [e];rfl)⟩
  ·exact ⟨w1,h1,fin w1 (by rw [e];rfl)⟩
 obtain ⟨w,hw,e⟩:=run
 exact ⟨_,e,zMt hr h0 h1 hw hb⟩
theorem zMu (e h:Int):∀ (ps:List Pl) (k:Nat) (p:Pl),zCk e h ((ps.set k p).map plD)<=zCk e h (ps.map plD)+(chs p).length
 | [],k,p=>by simp [zCk]
 |q::ps,0,p=>by
  rw [List.set_cons_zero,List.map_cons,List.map_cons,zCk,zCk]
  have:zRw e h (plD p)<=(chs p).length:=by
   cases p with
   |fin=>simp [plD,zRw]
   |tell a b ch=>
    simp only [plD,zRw,chs,List.length_map]
    have:=zJ2 e h a b
    exact Nat.le_trans (Nat.mul_le_mul_left _ this) (by omega)
  omega
 |q::ps,k+1,p=>by
  have:=zMu e h ps k p
  rw [List.set_cons_succ,List.map_cons,List.map_cons,zCk,zCk]
  omega
theorem law_3 {ns:List Int} {m:Int} {ps:List Pl} (h0:z9 m ps) (c0:∀ e h,zCk e h (ps.map plD)<=15) (hb:zCr m ps=true) {c:D} (hc:(∃ i,c = .int i)\/c = .str "sly"\/c = .non) (s3 s4 s5 s6 s7:Sl) :
  ∃ s3' s4' s5' s6' s7',zFE [.v (.lst (ns.map D.int)),.v (dnD m ps),.v c,s3,s4,s5,s6,s7]=some (.nx [.v (.lst (ns.map D.int)),.v (dnD m ps),.v c,s3',s4',s5',s6',s7']):=by
 have fin:∀ (m':Int) (qs:List Pl),z9 m' qs->Few qs->((∃ i,c = .int i)\/(∃ s,c = .str s)\/(c = .non/\zCr m' qs=true)) ->
   (sIf (bB (b2 (gR 2) (λ_=>some (D.str "sly")) eqO)) (qJ 3 (λρ=>((zC (λρ=>((zC (gV 0) (zC (zN 4) zP)) ρ).bind z6) zP) ρ).bind zAm)) (sIf (bB (b2 (gR 2) (λ_=>some D.non) zQC)) (qJ 3 (λρ=>((zC (gV 1) (zC (gV 2) zP)) ρ).bind yx)) (λρ=>some (Out.nx ρ)))) [.v (.lst (ns.map D.int)),.v (dnD m ps),.v c,.v (dnD m ps),s4,s5,s6,s7]=some (.nx [.v (.lst (ns.map D.int)),.v (dnD m ps),.v c,.v (dnD m' qs),s4,s5,s6,s7]) ->
   ∃ s3' s4' s5' s6' s7',zFE [.v (.lst (ns.map D.int)),.v (dnD m ps),.v c,s3,s4,s5,s6,s7]=some (.nx [.v (.lst (ns.map D.int)),.v (dnD m ps),.v c,s3',s4',s5',s6',s7']):=λm' qs hd hf hk e=>by
  obtain ⟨u3,u4,u5,u6,u7,e2⟩:=law_2 hd hf (s0:=.v (.lst (ns.map D.int))) (s1:=.v (dnD m ps)) (c:=c) (s5:=s5) (s6:=s6) (s7:=s7) hk
  refine ⟨u3,u4,u5,u6,u7,?_⟩
  unfold zFE
  rw [zf (ρ':=[.v (.lst (ns.map D.int)),.v (dnD m ps),.v c,.v (dnD m ps),s4,s5,s6,s7]) rfl,zf e,zf (ρ':=[.v (.lst (ns.map D.int)),.v (dnD m ps),.v c,.v (dnD m' qs),.v (.bl true),s5,s6,s7]) rfl,e2]
 have hf:Few ps:=λe h=>Nat.le_trans (c0 e h) (by decide)
 rcases hc with ⟨i,rfl⟩|rfl|rfl
 ·obtain ⟨qs,h,_,⟨k,p,rfl,hp⟩,e5⟩:=zME h0 i
  refine fin m _ h (λe h=>Nat.le_trans (zMu e h ps k p) (by have:=c0 e h;omega)) (.inl ⟨i,rfl⟩) ?_
  refine zOb (zJ9 (b:=false) rfl) ?_
  refine zMB (zJ9 (b:=true) rfl) ?_
  exact (yw (zD3 rfl rfl e5)).trans rfl
 ·obtain ⟨qs,e5,h,hf'⟩:=zTZ (ns.getD 4 0)
  refine fin 3 qs h hf' (.inr (.inl ⟨_,rfl⟩)) ?_
  have k4:z6 [.lst (ns.map D.int),.int 4]=some (.int (ns.getD 4 0)):=zLx (by decide)
  refine zMB (zJ9 (b:=true) (zGV rfl rfl (by unfold eqO;rw [if_pos (by simp [dep]),zGm]))) ?_
  exact (yw (zMq (zD3 rfl rfl k4) e5)).trans rfl
 ·exact fin m ps h0 hf (.inr (.inr ⟨rfl,hb⟩)) (zOb (zJ9 (b:=false) rfl) (zOb (zJ9 (b:=false) rfl) rfl))
theorem zMv {ns:List Int} {m:Int} {ps:List Pl} (h0:z9 m ps) (c0:∀ e h,zCk e h (ps.map plD)<=15) (hb:zCr m ps=true):∀ (cs:List D) (s2 s3 s4 s5 s6 s7:Sl),(∀ c∈cs,(∃ i,c = .int i)\/c = .str "sly"\/c = .non) ->
  ∃ s2' s3' s4' s5' s6' s7',zb (gN 2) zFE cs [.v (.lst (ns.map D.int)),.v (dnD m ps),s2,s3,s4,s5,s6,s7]=some (.nx [.v (.lst (ns.map D.int)),.v (dnD m ps),s2',s3',s4',s5',s6',s7'])
 | [],s2,s3,s4,s5,s6,s7,_=>⟨s2,s3,s4,s5,s6,s7,rfl⟩
 |c::cs,s2,s3,s4,s5,s6,s7,hc=>by
  obtain ⟨u3,u4,u5,u6,u7,e⟩:=law_3 (ns:=ns) h0 c0 hb (hc c List.mem_cons_self) s3 s4 s5 s6 s7
  obtain ⟨v2,v3,v4,v5,v6,v7,e'⟩:=zMv h0 c0 hb cs (.v c) u3 u4 u5 u6 u7 λx hx=>hc x (List.mem_cons_of_mem _ hx)
  exact ⟨v2,v3,v4,v5,v6,v7,by rw [qZ rfl e,e']⟩
theorem law_is (ns:List Int) (hn:ns.length<=63):m_law [.lst (ns.map D.int)]=some (.bl true):=by
 obtain ⟨m,ps,e1,h0,⟨rows',er',hl,hne⟩,c0,rows,S,er,hS,hR⟩:=zOD ns
 have hf:Few ps:=λe h=>Nat.le_trans (c0 e h) (by decide)
 have hb:zCr m ps=true:=by
  unfold zCr
  refine List.all_eq_true.mpr λi hi=>?_
  have him:=zMs h0 i hi
  subst er
  obtain ⟨L,lab⟩:=zOS h0 (by rintro rfl;rw [List.append_cancel_right er'.symm] at hl;simp at hl) hS hR (d:=(i:Int)) (by omega) him
  have:=Lab.part ⟨h0,hf,by omega,him⟩ lab
  unfold qi
  exact Option.isSome_iff_ne_none.mpr this
 obtain ⟨ys,ey,_,_⟩:=zRF D.int ns (some 4) (some 9)
 have yl:ys.length<=63:=by
  have:=zRE (xs:=ns.map D.int) (lo:=some 4) (hi:=some 9)
  rw [ey] at this
  simp at this;omega
 have cs:iL (λρ=>((b2F (λρ=>((b2F (λρ=>((zC (λ_=>some D.non) zP) ρ).map D.lst) (λρ=>((b1F (λρ=>((b3S (gR 0) (oI (zN 4)) (oI (zN 9)) slF) ρ).map D.lst) zKL) ρ).map D.lst) zi) ρ).map D.lst) (λρ=>((zC (λ_=>some (D.str "sly")) zP) ρ).map D.lst) zi) ρ).map D.lst) [.v (.lst (ns.map D.int)),.v (dnD m ps),.un,.un,.un,.un,.un,.un]=some (.non::ys.map D.int ++ [.str "sly"]):=by
  have l1:ys.length+1<=1000000:=by omega
  have l2:1+ys.length<=1000000:=by omega
  have l3:1+ys.length+1<=1000000:=by omega
  have l4:ys.length+1+1<=1000000:=by omega
  exists ey,List.length_map,List.length_cons,List.length_nil,List.length_append,l1,l2,l3,l4,eqO,zM,gN,gT,gCs,gNl,zb,neO
 refine zFw ?_
 show zOT [.v (.lst (ns.map D.int)),.un,.un,.un,.un,.un,.un,.un]=_
 obtain ⟨v2,v3,v4,v5,v6,v7,e'⟩:=zMv (ns:=ns) h0 c0 hb (.non::ys.map D.int ++ [.str "sly"]) .un .un .un .un .un .un λc hc=>by
  simp only [List.cons_append,List.mem_cons,List.mem_append,List.mem_map,List.not_mem_nil,or_false] at hc
  rcases hc with rfl|⟨i,_,rfl⟩|rfl
  ·exact .inr (.inr rfl)
  ·exact .inl ⟨i,rfl⟩
  ·exact .inr (.inl rfl)
 unfold zOT zMd
 rw [zf (ρ':=[.v (.lst (ns.map D.int)),.v (dnD m ps),.un,.un,.un,.un,.un,.un]) ((yw (zMq rfl e1)).trans rfl),zf (sFor_eq cs e')]
 rfl
end K04
namespace K04
open PySem PySem.Spec PyProof.Rows L2 RD LG
local macro_rules|`(⋯)=>`(by kernel_rfl)
local macro_rules|`(∅)=>`($(Lean.mkIdent `hr).mono (by decide))
local macro_rules|`(tactic|left)=>`(tactic|kernel_rfl)
local macro_rules|`(tactic|right)=>`(tactic|exact ⟨rfl,rfl,rfl,by decide +kernel,rfl,by decide +kernel,by decide +kernel⟩)
structure Cl (K:Fg) (mg:MGt) (κ:Nat->Addr):Prop where
 hE_NoPart:zQR K (κ 0)
 hM_NoPart:mg "NoPart" = some (.ref (κ 0))
 hM_NoMove:mg "NoMove" = some (.ref (κ 1))
 hM_ReelError:mg "ReelError" = some (.ref (κ 2))
 hX3:X3 K (κ 0) (κ 2) (κ 1)
 hS:mg "set" = none
 hV:mg "ValueError" = none
section
variable {P:Program} {w:World} {K:Fg} {mg:MGt} {base:Heap} {κ:Nat->Addr}
abbrev TD (P:Program) (w:World) (K:Fg) (mg:MGt) (base:Heap) (k:Nat) (N:List Str) (q:Str) (st:Stmt) (F:ROo):Prop:=∀ {fa:Addr} (cdv:Value) (A:Around) (outer:List Env) (s:Shared) (H:Hp),zBn k (A.deeper (envOfC q (zI st) s.heap.objs.size fa cdv))->SSs (zHy CX0 P w K mg base N q (zI st) fa cdv A outer s H E0).nox (ye st) F
abbrev TX (P:Program) (w:World) (K:Fg) (mg:MGt) (base:Heap) (κ:Nat->Addr) (k:Nat) (N:List Str) (q:Str) (st:Stmt) (F:Rho->Option zBR):Prop:=∀ {fa:Addr} (cdv:Value) (A:Around) (outer:List Env) (s:Shared) (H:Hp) (E:XK),zBn k (A.deeper (envOfC q (zI st) s.heap.objs.size fa cdv))->SXs (cxE P w K mg base N q (zI st) fa cdv A outer s H E) κ E (ye st) F
theorem zKA:zZ zEx ["_law_cell_here","_law_prime","_law_many"] (zI zER):=by right
theorem zMw  (hT:Bl mg) (hCl:Cl K mg κ):TD P w K mg base 0 zEx "_law_mix" zER zEy:=by
 intro fa cdv A outer s H hr
 exact (zL (z7 (za qj (zE (za qj (zE (za zBO (zB 0 (pv 0)) (zE zF))) (zB 1 (pv 1)))) (zB 2 (pv 2)))))
theorem zId:zZ zDe ["_law_script","_law_k"] (zI zDN):=by right
theorem zKB  (hT:Bl mg) (hCl:Cl K mg κ):TD P w K mg base 0 zDe "_law_cell" zDN zCG:=by
 intro fa cdv A outer s H hr
 exact (zH (qA (z8 (zK4) (zB 1 (pv 1)) (zE (zw zo (gl ⋯) hT.len PySem.boot_len (zB 0 (pv 0)))) (zl _)) (zL (z7 (zU (zB 0 (pv 0)) (zB 1 (pv 1))))) yA) (zL (z7 zF)))
theorem zFa:zZ zBS ["_law_cell_here","_law_many"] (zI zBI):=by right
theorem zGn  (hT:Bl mg) (hCl:Cl K mg κ):TD P w K mg base 0 zBS "_law_is_late" zBI zAK:=by
 intro fa cdv A outer s H hr
 have hu:=zHp hr
 exact (zL (z7 (zKx (zDx (yi hu) (zE (za qj (zB 0 (pv 0)) (zE zF))) (zE zF) (zl _)) (zIu (zDx (zEh) (zB 1 (pv 1)) (zE zF) (zl _))))))
theorem zBh:zZ zAY ["_law_start","_law_goals","_law_one","_law_others","_law_words"] (zI zAP):=by right
theorem zFI  (hT:Bl mg) (hCl:Cl K mg κ):TD P w K mg base 0 zAY "_law_told_late" zAP zBy:=by
 intro fa cdv A outer s H hr
 have hu:=zHp hr
 have hN:=zBh.nd
 exact (zH (yQ 5 (yJ zG) hN ⋯ (.inl ⋯)) (zH (yQ 6 (yJ zG) hN ⋯ (.inl ⋯)) (zH (zd 7 (zw zo (gl ⋯) hT.len PySem.boot_len (zB 3 (pv 3))) hN ⋯ (.inl ⋯)) (zH (qV PassesOwn.never rfl (zH9 (gl ⋯) hT.enumerate (zD 4 (pv 4))) (zFi rfl (qK (zW 8 hN ⋯ (.inl ⋯) (.inl rfl)) (qK (zW 9 hN ⋯ (.inl ⋯) (.inl rfl)) zDV))) (zH (zd 10 (za zX (zE (za zX (zB 0 (pv 0)) (zE zF))) (zE (za zBO (zB 8 (pv 8)) (zB 7 (pv 7))))) hN ⋯ (.inl ⋯)) (zH (yG 6 (pv 6) (zT (zA (zD 9 (pv 9)) (zA (zD 10 (pv 10)) zG)))) (zH (yG 5 (pv 5) (zT (zA zn (zA (zD 2 (pv 2)) (zA (zU (zB 3 (pv 3)) (zE zF)) (zA (zT (zA (zT (zA (zU (zB 4 (pv 4)) (zE zF)) (zA (za zX (zB 10 (pv 10)) (zE zF)) zG))) zG)) zG)))))) (zL (qV PassesOwn.never rfl (zKz (gl ⋯) hT.range (zA zF (zA (zD 7 (pv 7)) zG))) (zW 11 hN ⋯ (.inl ⋯) (.inl rfl)) (zH (zd 12 (zU (zE (zV (yJ (zA (za zX (zE (za zX (zB 10 (pv 10)) (zB 11 (pv 11)))) (zE zF)) (zA (zU (zB 1 (pv 1)) (zB 8 (pv 8))) zG))))) (zE (yC zEj (gl ⋯) hT.int zQH (zE (zDx (yi hu) (zB 11 (pv 11)) (zE (za zAW (zB 7 (pv 7)) (zE zF))) (zl _)))))) hN ⋯ (.inl ⋯)) (zL (yG 5 (pv 5) (zT (zA zn (zA (zU (zB 3 (pv 3)) (zE zF)) (zA (zU (zB 3 (pv 3)) (zB 11 (pv 11))) (zA (zT (zA (zT (zA (zD 9 (pv 9)) (zA (zD 12 (pv 12)) zG))) zG)) zG)))))))))))))) (zL (z7 (zV (zCy (zE (zV (yJ (zA (zT (zA zn (zA (zD 2 (pv 2)) (zA (zU (zB 3 (pv 3)) (zE zF)) (zA (yC yW (gl ⋯) hT.tuple qm (zB 6 (pv 6))) zG))))) zG)))) (zB 5 (pv 5))))))))))
theorem zFJ:zZ zDf ["_law_cell_here","_law_j"] (zI zDO):=by right
theorem zKC (h_law_mix:zp P w K mg base 1 "_law_mix" 3 zQ) (hT:Bl mg) (hCl:Cl K mg κ):TD P w K mg base 1 zDf "_law_word" zDO zDg:=by
 intro fa cdv A outer s H hr
 have hN:=zFJ.nd
 exact (zH (zd 2 zn hN ⋯ (.inr ⋯)) (zH (zd 3 (zU (zB 2 (pv 2)) (zE (za qj (zE (za zX (zE (zJ h_law_mix ∅ ⋯ rfl (zA (zD 0 (pv 0)) (zA zF (zA zF zG))))) (zE (za zBO (zE zF) (zB 1 (pv 1)))))) (zE zF)))) hN ⋯ (.inl ⋯)) (zH (zd 4 (zQF (zE (zV (zAG (nm:=["_law_k"]) (m:=1) rfl rfl ⋯ ⋯ (yr (gl ⋯) hT.range (zA (zJ h_law_mix ∅ ⋯ rfl (zA (zD 0 (pv 0)) (zA zF (zA zF zG)))) zG)) (yK (show 6<=6 by decide)) (λC s₃ H₃ ex=>(zW 6 (yu (nm:=["_law_k"]) ⋯) ⋯ (.inl ⋯) (.inr ⋯))) (λC s₃ H₃ ex=>.inl ⟨rfl,rfl⟩) (λC s₃ H₃ ex=>(zU (zB 2 (pv 2)) (zE (zJ h_law_mix ∅ ⋯ rfl (zA (za zX (zB 0 (pv 0)) (zE (za zBO (zE zF) (zB 6 (pv 6))))) (zA zF (zA zF zG))))))))))) hN ⋯ (.inl ⋯)) (zH (zd 5 (zJ h_law_mix ∅ ⋯ rfl (zA (zD 0 (pv 0)) (zA zF (zA (za zX (zE (zw zo (gl ⋯) hT.len PySem.boot_len (zB 4 (pv 4)))) (zE zF)) zG)))) hN ⋯ (.inl ⋯)) (zL (z7 (za zX (zE (za zX (zE (qL (zB 4 (pv 4)) zAX (qO (zD 5 (pv 5))))) (zB 3 (pv 3)))) (zE (qL (zB 4 (pv 4)) (qO (zD 5 (pv 5))) zAX)))))))))
theorem zCW:zZ zBT ["_law_cell_here","_law_start","_law_many","_law_goals"] (zI zBJ):=by right
theorem zGo (h_law_mix:zp P w K mg base 1 "_law_mix" 3 zQ) (h_law_is_late:zp P w K mg base 1 "_law_is_late" 2 yL) (h_law_told_late:zp P w K mg base 1 "_law_told_late" 5 yv) (h_law_word:zp P w K mg base 2 "_law_word" 2 zk) (hT:Bl mg) (hCl:Cl K mg κ):TD P w K mg base 2 zBT "_law_told_on" zBJ zC6:=by
 intro fa cdv A outer s H hr
 have hN:=zCW.nd
 exact (zH (zd 4 (zJ h_law_mix ∅ ⋯ rfl (zA (zD 0 (pv 0)) (zA zF (zA (zD 2 (pv 2)) zG)))) hN ⋯ (.inr ⋯)) (zH (zCF 5 (nm:=["_law_k"]) (m:=1) rfl rfl ⋯ ⋯ (yr (gl ⋯) hT.range (zA (za zAW (zB 2 (pv 2)) (zE zF)) zG)) (yK (show 13<=13 by decide)) (λC s₃ H₃ ex=>(zW 13 (yu (nm:=["_law_k"]) ⋯) ⋯ (.inl ⋯) (.inr ⋯))) (λC s₃ H₃ ex=>.inl ⟨rfl,rfl⟩) (λC s₃ H₃ ex=>(za qj (zE (za zX (zE (za zX (zB 4 (pv 4)) (zE zF))) (zE (za qj (zE (za zX (zB 13 (pv 13)) (zE (zJ h_law_mix ∅ ⋯ rfl (zA (zD 0 (pv 0)) (zA zF (zA (za zAW (zB 2 (pv 2)) (zE zF)) zG))))))) (zE (za zAW (zB 2 (pv 2)) (zE zF))))))) (zB 2 (pv 2)))) hN ⋯ (.inl ⋯)) (zH (zd 6 (zV (zEE zCE (gl ⋯) hT.sorted zBQ (zE (zV (zAG (nm:=["_law_j"]) (m:=1) rfl rfl ⋯ ⋯ (yr (gl ⋯) hT.range (zA (za zX (zE zF) (zE (zJ h_law_mix ∅ ⋯ rfl (zA (zD 0 (pv 0)) (zA zF (zA zF zG)))))) zG)) (yK (show 13<=13 by decide)) (λC s₃ H₃ ex=>(zW 13 (yu (nm:=["_law_j"]) ⋯) ⋯ (.inl ⋯) (.inr ⋯))) (λC s₃ H₃ ex=>.inl ⟨rfl,rfl⟩) (λC s₃ H₃ ex=>(zJ h_law_word ∅ ⋯ rfl (zA (zD 0 (pv 0)) (zA (zD 13 (pv 13)) zG))))))))) hN ⋯ (.inl ⋯)) (zH (qA (zCN (zE (zJ h_law_is_late ∅ ⋯ rfl (zA (zD 0 (pv 0)) (zA (zD 2 (pv 2)) zG))))) (zL (z7 (zJ h_law_told_late ∅ ⋯ rfl (zA (zD 1 (pv 1)) (zA (zD 3 (pv 3)) (zA (zD 4 (pv 4)) (zA (zD 5 (pv 5)) (zA (zD 6 (pv 6)) zG)))))))) yA) (zH (yQ 7 (yJ zG) hN ⋯ (.inl ⋯)) (zH (yQ 8 (yJ zG) hN ⋯ (.inl ⋯)) (zH (qV PassesOwn.never rfl (zH9 (gl ⋯) hT.enumerate (zD 6 (pv 6))) (zFi rfl (qK (zW 9 hN ⋯ (.inr ⋯) (.inl rfl)) (qK (zW 10 hN ⋯ (.inl ⋯) (.inl rfl)) zDV))) (zH (zd 11 (zV (zCy (zE (zV (zAG (nm:=["_law_k"]) (m:=1) rfl rfl ⋯ ⋯ (yr (gl ⋯) hT.range (zA (za zAW (zB 2 (pv 2)) (zE zF)) zG)) (yK (show 13<=13 by decide)) (λC s₃ H₃ ex=>(zW 13 (yu (nm:=["_law_k"]) ⋯) ⋯ (.inl ⋯) (.inr ⋯))) (λC s₃ H₃ ex=>.inl ⟨rfl,rfl⟩) (λC s₃ H₃ ex=>(za zX (zE (za zX (zE (za zX (zB 1 (pv 1)) (zE zF))) (zE (za zBO (zB 9 (pv 9)) (zE (za zAW (zB 2 (pv 2)) (zE zF))))))) (zB 13 (pv 13))))))) (zE (zV (yJ (zA (zU (zB 3 (pv 3)) (zB 9 (pv 9))) zG)))))) hN ⋯ (.inl ⋯)) (zH (yG 8 (pv 8) (zT (zA (zD 10 (pv 10)) (zA (zU (zB 11 (pv 11)) (zE zF)) zG)))) (zL (qV PassesOwn.never rfl (yr (gl ⋯) hT.range (zA (za zAW (zB 2 (pv 2)) (zE zF)) zG)) (zW 12 hN ⋯ (.inl ⋯) (.inl rfl)) (zL (yG 7 (pv 7) (zT (zA zn (zA (zD 4 (pv 4)) (zA (zU (zB 5 (pv 5)) (zE (za zX (zB 12 (pv 12)) (zE zF)))) (zA (zT (zA (zT (zA (zD 10 (pv 10)) (zA (zU (zB 11 (pv 11)) (zE (za zX (zB 12 (pv 12)) (zE zF)))) zG))) zG)) zG)))))))))))) (zL (z7 (zV (zCy (zE (zV (yJ (zA (zT (zA zn (zA (zD 4 (pv 4)) (zA (zU (zB 5 (pv 5)) (zE zF)) (zA (yC yW (gl ⋯) hT.tuple qm (zB 8 (pv 8))) zG))))) zG)))) (zB 7 (pv 7)))))))))))))
theorem zFK:zZ zDh ["_law_cell_here","_law_many"] (zI zDP):=by right
theorem zKD (h_law_is_late:zp P w K mg base 1 "_law_is_late" 2 yL) (h_law_mix:zp P w K mg base 1 "_law_mix" 3 zQ) (hT:Bl mg) (hCl:Cl K mg κ):TD P w K mg base 1 zDh "_law_size" zDP zDi:=by
 intro fa cdv A outer s H hr
 have hN:=zFK.nd
 exact (zH (zd 2 (za zX (zE (za zAW (zB 1 (pv 1)) (zE zF))) (zE (yC zEj (gl ⋯) hT.int zQH (zE (zJ h_law_is_late ∅ ⋯ rfl (zA (zD 0 (pv 0)) (zA (zD 1 (pv 1)) zG))))))) hN ⋯ (.inl ⋯)) (zL (z7 (za zX (zE (za zX (zE zF) (zE (za zBO (zE (za zX (zE zF) (zE (zJ h_law_mix ∅ ⋯ rfl (zA (zD 0 (pv 0)) (zA zF (zA zF zG))))))) (zB 2 (pv 2)))))) (zE (yC zEj (gl ⋯) hT.int zQH (zE (zDx (zEh) (zE (zJ h_law_mix ∅ ⋯ rfl (zA (zD 0 (pv 0)) (zA zF (zA zF zG))))) (zE zF) (zl _)))))))))
theorem zBi:zZ zAb ["_law_cell_here","_law_here","_law_many","_law_goal"] (zI zAQ):=by right
theorem zFL (h_law_mix:zp P w K mg base 1 "_law_mix" 3 zQ) (h_law_word:zp P w K mg base 2 "_law_word" 2 zk) (hT:Bl mg) (hCl:Cl K mg κ):TD P w K mg base 2 zAb "_law_apart_two" zAQ qX:=by
 intro fa cdv A outer s H hr
 have hu:=zHp hr
 have hN:=zBi.nd
 exact (zH (zd 4 (zJ h_law_mix ∅ ⋯ rfl (zA (zD 0 (pv 0)) (zA zF (zA (zD 2 (pv 2)) zG)))) hN ⋯ (.inl ⋯)) (zH (zd 5 (za qj (zE (za zX (zE (za zX (zB 4 (pv 4)) (zE zF))) (zE (zJ h_law_mix ∅ ⋯ rfl (zA (zD 0 (pv 0)) (zA zF (zA (za zAW (zB 2 (pv 2)) (zE zF)) zG))))))) (zB 2 (pv 2))) hN ⋯ (.inl ⋯)) (zH (zd 6 (zV (zEE zCE (gl ⋯) hT.sorted zBQ (zE (zV (yJ (zA (zJ h_law_word ∅ ⋯ rfl (zA (za zX (zB 0 (pv 0)) (zE zF)) (zA zF zG))) (zA (zJ h_law_word ∅ ⋯ rfl (zA (za zX (zB 0 (pv 0)) (zE zF)) (zA zF zG))) zG))))))) hN ⋯ (.inl ⋯)) (zH (qA (z8 (yi hu) (zE (zJ h_law_mix ∅ ⋯ rfl (zA (zD 0 (pv 0)) (zA zF (zA zF zG))))) (zE zF) (zl _)) (zL (z7 (zT (zA zn (zA (zD 4 (pv 4)) (zA (zD 5 (pv 5)) (zA (zT (zA (zT (zA (zU (zB 6 (pv 6)) (zE zF)) (zA (zD 3 (pv 3)) zG))) zG)) zG))))))) yA) (zL (z7 (zT (zA zn (zA (zD 4 (pv 4)) (zA (zD 5 (pv 5)) (zA (zT (zA (zT (zA (zU (zB 6 (pv 6)) (zE zF)) (zA (zU (zE (zV (yJ (zA (zD 1 (pv 1)) (zA (zD 3 (pv 3)) zG))))) (zE (za qj (zB 0 (pv 0)) (zE zF)))) zG))) (zA (zT (zA (zU (zB 6 (pv 6)) (zE zF)) (zA (zU (zE (zV (yJ (zA (zD 3 (pv 3)) (zA (zD 1 (pv 1)) zG))))) (zE (za qj (zB 0 (pv 0)) (zE zF)))) zG))) zG))) zG)))))))))))
theorem zD4:zZ zCj ["_law_script"] (zI zCZ):=by right
theorem zIe (h_law_mix:zp P w K mg base 1 "_law_mix" 3 zQ) (h_law_cell:zp P w K mg base 1 "_law_cell" 2 z6) (h_law_told_on:zp P w K mg base 3 "_law_told_on" 4 qW) (h_law_size:zp P w K mg base 2 "_law_size" 2 zBC) (h_law_apart_two:zp P w K mg base 3 "_law_apart_two" 4 yY) (hT:Bl mg) (hCl:Cl K mg κ):TD P w K mg base 3 zCj "_law_dance" zCZ zBU:=by
 intro fa cdv A outer s H hr
 have hN:=zD4.nd
 exact (zH (zd 1 (za zX (zE zF) (zE (zJ h_law_mix ∅ ⋯ rfl (zA (zJ h_law_cell ∅ ⋯ rfl (zA (zD 0 (pv 0)) (zA zF zG))) (zA zF (zA zF zG)))))) hN ⋯ (.inl ⋯)) (zH (zCF 2 (nm:=["_law_k"]) (m:=1) rfl rfl ⋯ ⋯ (yr (gl ⋯) hT.range (zA (za zX (zE zF) (zE (zJ h_law_mix ∅ ⋯ rfl (zA (zJ h_law_cell ∅ ⋯ rfl (zA (zD 0 (pv 0)) (zA zF zG))) (zA zF (zA zF zG)))))) zG)) (yK (show 9<=9 by decide)) (λC s₃ H₃ ex=>(zW 9 (yu (nm:=["_law_k"]) ⋯) ⋯ (.inl ⋯) (.inr ⋯))) (λC s₃ H₃ ex=>.inl ⟨rfl,rfl⟩) (λC s₃ H₃ ex=>(zJ h_law_cell ∅ ⋯ rfl (zA (zD 0 (pv 0)) (zA (za zX (zE zF) (zB 9 (pv 9))) zG)))) hN ⋯ (.inl ⋯)) (zH (yQ 3 (yJ (zA zF zG)) hN ⋯ (.inr ⋯)) (zH (qV PassesOwn.never rfl (zAz (zD 2 (pv 2))) (zW 4 hN ⋯ (.inr ⋯) (.inl rfl)) (zL (yG 3 (pv 3) (za zX (zE (zU (zB 3 (pv 3)) (zE (zHA (zE zF))))) (zE (zJ h_law_size ∅ ⋯ rfl (zA (zD 4 (pv 4)) (zA (zD 1 (pv 1)) zG)))))))) (zH (yQ 5 (yJ zG) hN ⋯ (.inl ⋯)) (zH (qV PassesOwn.never rfl (zH9 (gl ⋯) hT.enumerate (zD 2 (pv 2))) (zFi rfl (qK (zW 6 hN ⋯ (.inl ⋯) (.inl rfl)) (qK (zW 4 hN ⋯ (.inr ⋯) (.inl rfl)) zDV))) (zH (zIB 7 (nm:=["_law_j"]) (m:=1) rfl rfl ⋯ ⋯ (yr (gl ⋯) hT.range (zA zF zG)) (yK (show 9<=9 by decide)) (λC s₃ H₃ ex=>(zW 9 (yu (nm:=["_law_j"]) ⋯) ⋯ (.inl ⋯) (.inr ⋯))) (λC s₃ H₃ ex=>.inl ⟨rfl,rfl⟩) (λC s₃ H₃ ex=>(zU (zB 3 (pv 3)) (zE (zJ h_law_mix ∅ ⋯ rfl (zA (za zX (zB 4 (pv 4)) (zE (za zBO (zE zF) (zB 9 (pv 9))))) (zA zF (zA (zw zo (gl ⋯) hT.len PySem.boot_len (zB 3 (pv 3))) zG))))))) hN ⋯ (.inl ⋯)) (zH (zd 8 (zU (zB 7 (pv 7)) (zE zF)) hN ⋯ (.inl ⋯)) (zH (qA (z8 (zEh) (zE (zJ h_law_mix ∅ ⋯ rfl (zA (zD 4 (pv 4)) (zA zF (zA zF zG))))) (zE zF) (zl _)) (zL (zNT 7 (pv 7) zF (za zAW (zE (zU (zB 3 (pv 3)) (zE (za zX (zB 6 (pv 6)) (zE zF))))) (zE zF)))) yA) (zOx 7 (zH (yQ 5 (zCy (zB 5 (pv 5)) (zE (zJ h_law_told_on ∅ ⋯ rfl (zA (zD 4 (pv 4)) (zA (zU (zB 3 (pv 3)) (zB 6 (pv 6))) (zA (zD 1 (pv 1)) (zA (zD 7 (pv 7)) zG))))))) hN ⋯ (.inl ⋯)) (zL (qA (z8 (zEh) (zE (zJ h_law_mix ∅ ⋯ rfl (zA (zD 4 (pv 4)) (zA zF (zA zF zG))))) (zE zF) (zl _)) (zL (yG 5 (pv 5) (zJ h_law_apart_two ∅ ⋯ rfl (zA (zD 4 (pv 4)) (zA (za zAW (zE (zU (zB 3 (pv 3)) (zE (za zX (zB 6 (pv 6)) (zE zF))))) (zE zF)) (zA (zD 1 (pv 1)) (zA (zD 8 (pv 8)) zG))))))) yA)))))))) (zL (z7 (zT (zA (zD 1 (pv 1)) (zA (yC yW (gl ⋯) hT.tuple qm (zE (zV (zCy (zB 5 (pv 5)) (zE (zV (yJ (zA (zT (zA zn zG)) zG)))))))) zG)))))))))))
theorem zGp:zZ zB1 ["place","dancer"] (zI zBp):=by right
theorem zHi  (hT:Bl mg) (hCl:Cl K mg κ):TD P w K mg base 0 zB1 "takes_part" zBp zAu:=by
 intro fa cdv A outer s H hr
 have hu:=zHp hr
 exact (zL (z7 (zKx (zDx (yi hu) (zE (zU (zB 0 (pv 0)) (zE zF))) (zE zn) (zl _)) (zIu (se_in hu (zD 1 (pv 1)) (zE (zT (zA (zU (zB 0 (pv 0)) (zE zF)) (zA (zU (zB 0 (pv 0)) (zE zF)) zG)))) (by rfl))))))
theorem zKE:zZ zE5 ["place","dancer"] (zI zES):=by right
theorem zMx (h_takes_part:zp P w K mg base 1 "takes_part" 2 yd) (hT:Bl mg) (hCl:Cl K mg κ):TD P w K mg base 1 zE5 "is_turn" zES zC9:=by
 intro fa cdv A outer s H hr
 have hu:=zHp hr
 exact (zL (z7 (se_or (zDx (yi hu) (zE (zU (zB 0 (pv 0)) (zE zF))) (zE zn) (zl _)) (zIu (zJ h_takes_part ∅ ⋯ rfl (zA (zD 0 (pv 0)) (zA (zD 1 (pv 1)) zG)))))))
theorem zCX:zZ zBX ["dance","dancer","some"] (zI zBK):=by right
theorem zGq (h_is_turn:zp P w K mg base 2 "is_turn" 2 zBD) (hT:Bl mg) (hCl:Cl K mg κ):TD P w K mg base 2 zBX "turns_among" zBK zBY:=by
 intro fa cdv A outer s H hr
 have hN:=zCX.nd
 exact (zH (zCF 3 (nm:=["number"]) (m:=1) rfl rfl ⋯ ⋯ (zBv (zD 2 (pv 2))) (yK (show 4<=4 by decide)) (λC s₃ H₃ ex=>(zW 4 (yu (nm:=["number"]) ⋯) ⋯ (.inl ⋯) (.inr ⋯))) (λC s₃ H₃ ex=>.inl ⟨rfl,rfl⟩) (λC s₃ H₃ ex=>(zU (zE (zU (zB 0 (pv 0)) (zE zF))) (zB 4 (pv 4)))) hN ⋯ (.inl ⋯)) (zL (z7 (zV (zAG (nm:=["place"]) (m:=1) rfl rfl ⋯ ⋯ (zAz (zD 3 (pv 3))) (yK (show 4<=4 by decide)) (λC s₃ H₃ ex=>(zW 4 (yu (nm:=["place"]) ⋯) ⋯ (.inl ⋯) (.inr ⋯))) (λC s₃ H₃ ex=>.inr ⟨_,rfl,(zCN (zE (zJ h_is_turn ∅ ⋯ rfl (zA (zD 4 (pv 4)) (zA (zD 1 (pv 1)) zG)))))⟩) (λC s₃ H₃ ex=>(zD 4 (pv 4))))))))
theorem zGr:zZ zB0 ["place"] (zI zBq):=by right
theorem zHj  (hT:Bl mg) (hCl:Cl K mg κ):TD P w K mg base 0 zB0 "choices_of" zBq zAt:=by
 intro fa cdv A outer s H hr
 have hu:=zHp hr
 exact (zH (qA (z8 (yi hu) (zE (zU (zB 0 (pv 0)) (zE zF))) (zE zn) (zl _)) (zL (z7 (zT zG))) yA) (zL (z7 (zU (zB 0 (pv 0)) (zE zF)))))
theorem zJh:zZ zIM ["dance","dancer","some"] (zI zHs):=by right
theorem zRm (h_takes_part:zp P w K mg base 1 "takes_part" 2 yd) (h_choices_of:zp P w K mg base 1 "choices_of" 1 yb) (hT:Bl mg) (hCl:Cl K mg κ):TD P w K mg base 1 zIM "apart" zHs zIN:=by
 intro fa cdv A outer s H hr
 have hu1:=zKt hr
 have hN:=zJh.nd
 exact (zH (zd 3 (zU (zB 0 (pv 0)) (zE zF)) hN ⋯ (.inl ⋯)) (zH (zFo 4 hN ⋯ (.inl ⋯)) (zH (yQ 5 (zEe zEi (gl ⋯) hT.list zLH (zB 2 (pv 2))) hN ⋯ (.inl ⋯)) (zH (zGD 300 PassesOwn.never (z8 (zEh) (zE (zw zo (gl ⋯) hT.len PySem.boot_len (zB 5 (pv 5)))) (zE zF) (zl _)) (zH (zO6 6 5 (pv 5) hN ⋯ (.inl ⋯)) (zH (qA (zSe hu1 4 (pv 4) (zD 6 (pv 6))) (zL zP9) yA) (zH (zLI hu1 4 (pv 4) (zD 6 (pv 6)) zG7) (zL (qA (zFg (zCN (zE (zJ h_takes_part ∅ ⋯ rfl (zA (zU (zB 3 (pv 3)) (zB 6 (pv 6))) (zA (zD 1 (pv 1)) zG)))))) (zL (zEr 5 (pv 5) (zAG (nm:=["choice"]) (m:=1) rfl rfl ⋯ ⋯ (zBv (zJ h_choices_of ∅ ⋯ rfl (zA (zU (zB 3 (pv 3)) (zB 6 (pv 6))) zG))) (yK (show 7<=7 by decide)) (λC s₃ H₃ ex=>(zW 7 (yu (nm:=["choice"]) ⋯) ⋯ (.inl ⋯) (.inr ⋯))) (λC s₃ H₃ ex=>.inl ⟨rfl,rfl⟩) (λC s₃ H₃ ex=>(zU (zB 7 (pv 7)) (zE zF)))))) yA)))))) (zL (z7 (yC yW (gl ⋯) hT.tuple qm (zE (zV (zNY 4 rfl (gl ⋯) hT.sorted (pv 4)))))))))))
theorem zF2:zZ zE6 ["dance","dancer"] (zI zET):=by right
theorem zMy (h_turns_among:zp P w K mg base 3 "turns_among" 3 yM) (h_apart:zp P w K mg base 2 "apart" 3 qa) (hT:Bl mg) (hCl:Cl K mg κ):TD P w K mg base 3 zE6 "in_vain" zET zB7:=by
 intro fa cdv A outer s H hr
 have hu:=zHp hr
 have hu1:=zKt hr
 have hN:=zF2.nd
 exact (zH (zFo 2 hN ⋯ (.inl ⋯)) (zH (qV PassesOwn.never rfl (yr (gl ⋯) hT.range (zA (zw zo (gl ⋯) hT.len PySem.boot_len (zE (zU (zB 0 (pv 0)) (zE zF)))) zG)) (zW 3 hN ⋯ (.inl ⋯) (.inl rfl)) (zL (qA (z8 (yi hu) (zE (zw zo (gl ⋯) hT.len PySem.boot_len (zE (zJ h_turns_among ∅ ⋯ rfl (zA (zD 0 (pv 0)) (zA (zD 1 (pv 1)) (zA (zJ h_apart ∅ ⋯ rfl (zA (zD 0 (pv 0)) (zA (zD 1 (pv 1)) (zA (zT (zA (zD 3 (pv 3)) zG)) zG)))) zG))))))) (zE zF) (zl _)) (zL (zLI hu1 2 (pv 2) (zD 3 (pv 3)) zG7)) yA))) (zL (zLY 2 (pv 2)))))
theorem zA5:zZ ya ["dancer","some","turns","vain"] (zI yU):=by right
theorem zBG  (hT:Bl mg) (hCl:Cl K mg κ):TX P w K mg base κ 0 ya "refuse_waiting_in_vain" yU zq:=by
 intro fa cdv A outer s H E hr
 have hu1:=zKt hr
 obtain ⟨hE_NoPart,hM_NoPart,hM_NoMove,hM_ReelError,hX3,hS,hV⟩:=hCl
 exact (zLQ (zSj (zRn (zG9 (z8 (zEh) (zE (zw zo (gl ⋯) hT.len PySem.boot_len (zB 2 (pv 2)))) (zE zF) (zl _)) (zGC (zCN (zE (zw (zLN rfl) (gl ⋯) hT.any b_any (zE (zV (zAG (nm:=["number"]) (m:=1) rfl rfl ⋯ ⋯ (zBv (zD 1 (pv 1))) (yK (show 4<=4 by decide)) (λC s₃ H₃ ex=>(zW 4 (yu (nm:=["number"]) ⋯) ⋯ (.inl ⋯) (.inr ⋯))) (λC s₃ H₃ ex=>.inl ⟨rfl,rfl⟩) (λC s₃ H₃ ex=>(zSq hu1 3 (pv 3) (zD 4 (pv 4))))))))))))) (zLQ (zI1 0 hE_NoPart (gl ⋯) hM_NoPart (zA (zLT (zB 0 (pv 0))) zG))) (zHI yA)))
theorem zIf:zZ zDm ["turn","dancer"] (zI zDQ):=by right
theorem zKF  (hT:Bl mg) (hCl:Cl K mg κ):TD P w K mg base 0 zDm "asked_at" zDQ zCI:=by
 intro fa cdv A outer s H hr
 have hu:=zHp hr
 exact (zH (qA (z8 (yi hu) (zE (zU (zB 0 (pv 0)) (zE zF))) (zE zn) (zl _)) (zL (z7 (zT (zA zn zG)))) yA) (zH (qA (z8 (yi hu) (zE (zU (zB 0 (pv 0)) (zE zF))) (zB 1 (pv 1)) (zl _)) (zL (z7 (zT (zA zn (zA (zU (zB 0 (pv 0)) (zE zF)) (zA (yC yW (gl ⋯) hT.tuple qm (zE (zV (zAG (nm:=["choice"]) (m:=1) rfl rfl ⋯ ⋯ (zBv (zU (zB 0 (pv 0)) (zE zF))) (yK (show 2<=2 by decide)) (λC s₃ H₃ ex=>(zW 2 (yu (nm:=["choice"]) ⋯) ⋯ (.inl ⋯) (.inr ⋯))) (λC s₃ H₃ ex=>.inl ⟨rfl,rfl⟩) (λC s₃ H₃ ex=>(zU (zB 2 (pv 2)) (zE zF))))))) zG)))))) yA) (zL (z7 (zT (zA zn (zA (zU (zB 0 (pv 0)) (zE zF)) zG)))))))
theorem zCA:zZ zA2 ["turns","dancer"] (zI zAx):=by right
theorem zFb (h_asked_at:zp P w K mg base 1 "asked_at" 2 qo) (hT:Bl mg) (hCl:Cl K mg κ):TX P w K mg base κ 1 zA2 "asked_at_all" zAx qw:=by
 intro fa cdv A outer s H E hr
 have hu:=zHp hr
 have hN:=zCA.nd
 obtain ⟨hE_NoPart,hM_NoPart,hM_NoMove,hM_ReelError,hX3,hS,hV⟩:=hCl
 exact (zAE (zHH (qA (z8 (yi hu) (zE (zw zo (gl ⋯) hT.len PySem.boot_len (zB 0 (pv 0)))) (zE zF) (zl _)) (zL (z7 (zT (zA zn zG)))) yA)) (zAE (zHH (zd 2 (zJ h_asked_at ∅ ⋯ rfl (zA (zU (zB 0 (pv 0)) (zE zF)) (zA (zD 1 (pv 1)) zG))) hN ⋯ (.inr ⋯))) (zAE (zSj (zFg (zCN (zE (zw (zLM rfl) (gl ⋯) hT.all b_all (zE (zV (zAG (nm:=["turn"]) (m:=1) rfl rfl ⋯ ⋯ (zAz (zD 0 (pv 0))) (yK (show 3<=3 by decide)) (λC s₃ H₃ ex=>(zW 3 (yu (nm:=["turn"]) ⋯) ⋯ (.inl ⋯) (.inr ⋯))) (λC s₃ H₃ ex=>.inl ⟨rfl,rfl⟩) (λC s₃ H₃ ex=>(zDx (yi hu) (zE (zJ h_asked_at ∅ ⋯ rfl (zA (zD 3 (pv 3)) (zA (zD 1 (pv 1)) zG)))) (zB 2 (pv 2)) (zl _)))))))))) (zLQ (zI1 0 hE_NoPart (gl ⋯) hM_NoPart (zA (zLT (zB 1 (pv 1))) zG))) (zHI yA)) (zHI (zL (z7 (zD 2 (pv 2))))))))
theorem zBj:zZ zAi ["turns"] (zI zAR):=by right
theorem zFM (h_choices_of:zp P w K mg base 1 "choices_of" 1 yb) (hT:Bl mg) (hCl:Cl K mg κ):TD P w K mg base 1 zAi "nexts_by_word" zAR zAj:=by
 intro fa cdv A outer s H hr
 have hu1:=zKt hr
 have hN:=zBj.nd
 exact (zH (zNi 1 hN ⋯ (.inl ⋯)) (zH (qV PassesOwn.never rfl (zAz (zD 0 (pv 0))) (zW 2 hN ⋯ (.inl ⋯) (.inl rfl)) (zL (qV PassesOwn.never rfl (zBv (zJ h_choices_of ∅ ⋯ rfl (zA (zD 2 (pv 2)) zG))) (zFi rfl (qK (zW 3 hN ⋯ (.inl ⋯) (.inl rfl)) (qK (zW 4 hN ⋯ (.inl ⋯) (.inl rfl)) zDV))) (zL (zNk 1 hu1 (pv 1) (zD 3 (pv 3)) (zD 4 (pv 4))))))) (zL (zLY 1 (pv 1)))))
theorem zF3:zZ zE7 ["dance","dancer"] (zI zEU):=by right
theorem zMz (h_in_vain:zSo P w K mg base 4 "in_vain" 2 zAC) (h_apart:zp P w K mg base 2 "apart" 3 qa) (h_turns_among:zp P w K mg base 3 "turns_among" 3 yM) (h_refuse_waiting_in_vain:zQh P w K mg base κ 1 "refuse_waiting_in_vain" 4 zr) (h_asked_at_all:zNc P w K mg base κ 2 "asked_at_all" 2 yE) (h_nexts_by_word:zSo P w K mg base 2 "nexts_by_word" 1 yy) (hT:Bl mg) (hCl:Cl K mg κ):TX P w K mg base κ 4 zE7 "part_of" zEU zE8:=by
 intro fa cdv A outer s H E hr
 have hu:=zHp hr
 have hu1:=zKt hr
 have hN:=zF3.nd
 exact (zAE (zHH (zLa 2 h_in_vain ∅ ⋯ rfl (zA (zD 0 (pv 0)) (zA (zD 1 (pv 1)) zG)) hN ⋯ (.inl ⋯))) (zAE (zHH (yQ 3 (yJ (zA (zJ h_apart ∅ ⋯ rfl (zA (zD 0 (pv 0)) (zA (zD 1 (pv 1)) (zA (zT (zA zF zG)) zG)))) zG)) hN ⋯ (.inl ⋯))) (zAE (zHH (zQd hu1 4 (zU (zB 3 (pv 3)) (zE zF)) zF hN ⋯ (.inl ⋯))) (zAE (zHH (yQ 5 (yJ zG) hN ⋯ (.inl ⋯))) (zAE (zNb 20000000 zFt (z8 (zK4) (zE (zw zo (gl ⋯) hT.len PySem.boot_len (zB 5 (pv 5)))) (zE (zw zo (gl ⋯) hT.len PySem.boot_len (zB 3 (pv 3)))) (zl _)) (zAE (zHH (zd 6 (zU (zB 3 (pv 3)) (zE (zw zo (gl ⋯) hT.len PySem.boot_len (zB 5 (pv 5))))) hN ⋯ (.inl ⋯))) (zAE (zHH (zd 7 (zJ h_turns_among ∅ ⋯ rfl (zA (zD 0 (pv 0)) (zA (zD 1 (pv 1)) (zA (zD 6 (pv 6)) zG)))) hN ⋯ (.inl ⋯))) (zAE (zQU (zNm h_refuse_waiting_in_vain zLO ∅ ⋯ rfl (zGO (zD 1 (pv 1)) (zGO (zD 6 (pv 6)) (zGO (zD 7 (pv 7)) (zQf 2 (pv 2))))))) (zAE (zSk 8 (zQT h_asked_at_all zLO ∅ ⋯ rfl (zA (zD 7 (pv 7)) (zA (zD 1 (pv 1)) zG))) hN ⋯ (.inl ⋯)) (zHI (zH (zLa 9 h_nexts_by_word ∅ ⋯ rfl (zA (zD 7 (pv 7)) zG) hN ⋯ (.inl ⋯)) (zH (yQ 10 (yJ zG) hN ⋯ (.inl ⋯)) (zH (qV zFt rfl (zAz (zV (zLg 9 rfl (gl ⋯) hT.sorted (pv 9)))) (zW 11 hN ⋯ (.inl ⋯) (.inl rfl)) (zH (zd 12 (zJ h_apart ∅ ⋯ rfl (zA (zD 0 (pv 0)) (zA (zD 1 (pv 1)) (zA (yC yW (gl ⋯) hT.tuple qm (zNj hu1 9 (pv 9) (zD 11 (pv 11)))) zG)))) hN ⋯ (.inl ⋯)) (zH (qA (zQa hu1 4 (pv 4) (zD 12 (pv 12))) (zH (zQb hu1 4 (pv 4) (zD 12 (pv 12)) (zw zo (gl ⋯) hT.len PySem.boot_len (zB 3 (pv 3)))) (zL (yG 3 (pv 3) (zD 12 (pv 12))))) yA) (zL (yG 10 (pv 10) (zT (zA (zD 11 (pv 11)) (zA (zQZ hu1 4 (pv 4) (zD 12 (pv 12))) zG)))))))) (zL (yG 5 (pv 5) (zNn (zSZ hu (zU (zB 8 (pv 8)) (zE zF)) (zE (zT (zA zn (zA zn zG)))) (by rfl)) (zT (zA (zU (zB 8 (pv 8)) (zE zF)) (zA (zU (zB 8 (pv 8)) (zE zF)) (zA (yC yW (gl ⋯) hT.tuple qm (zB 10 (pv 10))) zG)))) (zD 8 (pv 8)))))))))))))) (zHI (zL (z7 (yC yW (gl ⋯) hT.tuple qm (zB 5 (pv 5)))))))))))
theorem zF4:zZ zFC ["dance"] (zI zEV):=by right
theorem zM0 (h_part_of:zNc P w K mg base κ 5 "part_of" 2 zAD) (hT:Bl mg) (hCl:Cl K mg κ):TD P w K mg base 5 zFC "is_fair" zEV zDJ:=by
 intro fa cdv A outer s H hr
 have hN:=zF4.nd
 obtain ⟨hE_NoPart,hM_NoPart,hM_NoMove,hM_ReelError,hX3,hS,hV⟩:=hCl
 exact (zH (qV PassesOwn.never rfl (yr (gl ⋯) hT.range (zA (zU (zB 0 (pv 0)) (zE zF)) zG)) (zW 1 hN ⋯ (.inl ⋯) (.inl rfl)) (zL (zQW 0 h_part_of ∅ ⋯ rfl (zA (zD 0 (pv 0)) (zA (zD 1 (pv 1)) zG)) rfl hE_NoPart (gl ⋯) hM_NoPart rfl rfl (λy=>(zL (z7 zG7)))))) (zL (z7 zG7)))
theorem zF5:zZ zFB ["_law_cell_here"] (zI zEW):=by right
theorem zM1 (h_law_word:zp P w K mg base 2 "_law_word" 2 zk) (hT:Bl mg) (hCl:Cl K mg κ):TD P w K mg base 2 zFB "_law_sly" zEW zDI:=by
 intro fa cdv A outer s H hr
 have hN:=zF5.nd
 exact (zH (zd 1 (zV (zEE zCE (gl ⋯) hT.sorted zBQ (zE (zV (yJ (zA (zJ h_law_word ∅ ⋯ rfl (zA (zD 0 (pv 0)) (zA zF zG))) (zA (zJ h_law_word ∅ ⋯ rfl (zA (zD 0 (pv 0)) (zA zF zG))) zG))))))) hN ⋯ (.inl ⋯)) (zH (yQ 2 (yJ (zA (zT (zA zn (zA zF (zA zF (zA (zT (zA (zT (zA (zU (zB 1 (pv 1)) (zE zF)) (zA zF zG))) (zA (zT (zA (zU (zB 1 (pv 1)) (zE zF)) (zA zF zG))) zG))) zG))))) zG)) hN ⋯ (.inl ⋯)) (zH (qV PassesOwn.never rfl (yr (gl ⋯) hT.range (zA zF zG)) (zW 3 hN ⋯ (.inl ⋯) (.inl rfl)) (zL (yG 2 (pv 2) (zT (zA zn (zA zF (zA (za zBO (zE (za qj (zE (za zIy (zB 0 (pv 0)) (zE zF))) (zE zF))) (zB 3 (pv 3))) (zA (zT (zA (zT (zA (zU (zB 1 (pv 1)) (zE (za zBO (zE (za qj (zE (za zIy (zB 0 (pv 0)) (zE zF))) (zE zF))) (zB 3 (pv 3))))) (zA zF zG))) zG)) zG)))))))) (zL (z7 (zT (zA zF (zA (yC yW (gl ⋯) hT.tuple qm (zE (zV (zCy (zB 2 (pv 2)) (zE (zV (yJ (zA (zT (zA zn zG)) (zA (zT (zA zn zG)) zG))))))))) zG))))))))
theorem zD5:zZ zCl ["_law_dance_here","_law_dancer","_law_some"] (zI zCa):=by right
theorem zIg  (hT:Bl mg) (hCl:Cl K mg κ):TD P w K mg base 0 zCl "_law_apart" zCa zBW:=by
 intro fa cdv A outer s H hr
 have hu:=zHp hr
 have hN:=zD5.nd
 exact (zH (yQ 3 (yJ zG) hN ⋯ (.inl ⋯)) (zH (yQ 4 (zEe zEi (gl ⋯) hT.list zLH (zB 2 (pv 2))) hN ⋯ (.inl ⋯)) (zH (zGD 300 PassesOwn.never (zCN (zB 4 (pv 4))) (zH (zO6 5 4 (pv 4) hN ⋯ (.inl ⋯)) (zL (qA (zK3 hu (zD 5 (pv 5)) (zB 3 (pv 3)) (by rfl)) (zH (yG 3 (pv 3) (zD 5 (pv 5))) (zH (zd 6 (zU (zE (zU (zB 0 (pv 0)) (zE zF))) (zB 5 (pv 5))) hN ⋯ (.inl ⋯)) (zL (qA (zRn (zG9 (z8 (yi hu) (zE (zU (zB 6 (pv 6)) (zE zF))) (zE zn) (zl _)) (zG9 (z8 (zIx hu) (zB 1 (pv 1)) (zE (zU (zB 6 (pv 6)) (zE zF))) (zl _)) (zGC (z8 (zIx hu) (zB 1 (pv 1)) (zE (zU (zB 6 (pv 6)) (zE zF))) (zl _)))))) (zL (yQ 4 (zCy (zB 4 (pv 4)) (zE (zV (zAG (nm:=["_law_pair"]) (m:=1) rfl rfl ⋯ ⋯ (zBv (zU (zB 6 (pv 6)) (zE zF))) (yK (show 7<=7 by decide)) (λC s₃ H₃ ex=>(zW 7 (yu (nm:=["_law_pair"]) ⋯) ⋯ (.inl ⋯) (.inr ⋯))) (λC s₃ H₃ ex=>.inl ⟨rfl,rfl⟩) (λC s₃ H₃ ex=>(zU (zB 7 (pv 7)) (zE zF))))))) hN ⋯ (.inl ⋯))) yA)))) yA)))) (zL (z7 (yC yW (gl ⋯) hT.tuple qm (zE (zV (zEE zCE (gl ⋯) hT.sorted zBQ (zB 3 (pv 3)))))))))))
theorem zHk:zZ zCn ["_law_dance_here","_law_dancer","_law_some"] (zI zCb):=by right
theorem zIh  (hT:Bl mg) (hCl:Cl K mg κ):TD P w K mg base 0 zCn "_law_turns" zCb zCo:=by
 intro fa cdv A outer s H hr
 have hu:=zHp hr
 exact (zL (z7 (zV (zAG (nm:=["_law_at"]) (m:=1) rfl rfl ⋯ ⋯ (zBv (zD 2 (pv 2))) (yK (show 3<=3 by decide)) (λC s₃ H₃ ex=>(zW 3 (yu (nm:=["_law_at"]) ⋯) ⋯ (.inl ⋯) (.inr ⋯))) (λC s₃ H₃ ex=>.inr ⟨_,rfl,(zRn (zP7 (z8 (yi hu) (zE (zU (zE (zU (zB 0 (pv 0)) (zE zF))) (zB 3 (pv 3)))) (zE (zT (zA zn zG))) (zl _)) (zOu (zSZ hu (zD 1 (pv 1)) (zE (qL (zE (zU (zE (zU (zB 0 (pv 0)) (zE zF))) (zB 3 (pv 3)))) (qO zF) (qO zF))) (by rfl)))))⟩) (λC s₃ H₃ ex=>(zD 3 (pv 3)))))))
theorem zD6:zZ zCp ["_law_dance_here","_law_dancer","_law_turns_here"] (zI zCc):=by right
theorem zIi  (hT:Bl mg) (hCl:Cl K mg κ):TD P w K mg base 0 zCp "_law_kinds" zCc zBc:=by
 intro fa cdv A outer s H hr
 have hu:=zHp hr
 have hN:=zD6.nd
 exact (zH (yQ 3 (yJ zG) hN ⋯ (.inl ⋯)) (zH (qV PassesOwn.never rfl (zAz (zD 2 (pv 2))) (zW 4 hN ⋯ (.inl ⋯) (.inl rfl)) (zH (zd 5 (zU (zE (zU (zB 0 (pv 0)) (zE zF))) (zB 4 (pv 4))) hN ⋯ (.inl ⋯)) (zH (zd 6 (zT (zA zn zG)) hN ⋯ (.inl ⋯)) (zH (qA (zRn (zG9 (z8 (yi hu) (zE (zU (zB 5 (pv 5)) (zE zF))) (zE zn) (zl _)) (zGC (z8 (yi hu) (zE (zU (zB 5 (pv 5)) (zE zF))) (zB 1 (pv 1)) (zl _))))) (zH (zCF 7 (nm:=["_law_pair"]) (m:=1) rfl rfl ⋯ ⋯ (zBv (zU (zB 5 (pv 5)) (zE zF))) (yK (show 8<=8 by decide)) (λC s₃ H₃ ex=>(zW 8 (yu (nm:=["_law_pair"]) ⋯) ⋯ (.inl ⋯) (.inr ⋯))) (λC s₃ H₃ ex=>.inl ⟨rfl,rfl⟩) (λC s₃ H₃ ex=>(zU (zB 8 (pv 8)) (zE zF))) hN ⋯ (.inl ⋯)) (zL (zd 6 (zT (zA zn (zA (zU (zB 5 (pv 5)) (zE zF)) (zA (yC yW (gl ⋯) hT.tuple qm (zB 7 (pv 7))) zG)))) hN ⋯ (.inl ⋯)))) (zL (qA (z8 (yi hu) (zE (zU (zB 5 (pv 5)) (zE zF))) (zE zn) (zl _)) (zL (zd 6 (zT (zA zn (zA (zU (zB 5 (pv 5)) (zE zF)) zG))) hN ⋯ (.inl ⋯))) yA))) (zL (qA (zK3 hu (zD 6 (pv 6)) (zB 3 (pv 3)) (by rfl)) (zL (yG 3 (pv 3) (zD 6 (pv 6)))) yA)))))) (zL (zKy 3 (pv 3)))))
theorem zD7:zZ zCq ["_law_dance_here","_law_dancer","_law_some","_law_known"] (zI zCd):=by right
theorem zIj (h_law_turns:zp P w K mg base 1 "_law_turns" 3 qQ) (h_law_kinds:zp P w K mg base 1 "_law_kinds" 3 zBd) (h_law_apart:zp P w K mg base 1 "_law_apart" 3 yg) (hT:Bl mg) (hCl:Cl K mg κ):TD P w K mg base 1 zCq "_law_state" zCd qr:=by
 intro fa cdv A outer s H hr
 have hu:=zHp hr
 have hN:=zD7.nd
 obtain ⟨hE_NoPart,hM_NoPart,hM_NoMove,hM_ReelError,hX3,hS,hV⟩:=hCl
 exact (zH (zd 4 (zJ h_law_turns ∅ ⋯ rfl (zA (zD 0 (pv 0)) (zA (zD 1 (pv 1)) (zA (zD 2 (pv 2)) zG)))) hN ⋯ (.inl ⋯)) (zH (zd 5 (zJ h_law_kinds ∅ ⋯ rfl (zA (zD 0 (pv 0)) (zA (zD 1 (pv 1)) (zA (zD 4 (pv 4)) zG)))) hN ⋯ (.inl ⋯)) (zH (qA (zFg (zCN (zB 4 (pv 4)))) (zL (zEv (zT (zA zn zG)))) yA) (zH (qA (z8 (zEh) (zE (zw zo (gl ⋯) hT.len PySem.boot_len (zB 5 (pv 5)))) (zE zF) (zl _)) (zL (zEv zDw)) yA) (zH (qV PassesOwn.never rfl (zBv (zD 2 (pv 2))) (zW 6 hN ⋯ (.inl ⋯) (.inl rfl)) (zL (qA (zFg (zCN (zE (zJ h_law_turns ∅ ⋯ rfl (zA (zD 0 (pv 0)) (zA (zD 1 (pv 1)) (zA (zJ h_law_apart ∅ ⋯ rfl (zA (zD 0 (pv 0)) (zA (zD 1 (pv 1)) (zA (zT (zA (zD 6 (pv 6)) zG)) zG)))) zG))))))) (zL (zEv zDw)) yA))) (zH (qA (z8 (yi hu) (zE (zU (zB 5 (pv 5)) (zE zF))) (zE (zT (zA zn zG))) (zl _)) (zL (zEv (zT (zA zn zG)))) yA) (zH (yQ 7 (yJ zG) hN ⋯ (.inl ⋯)) (zH (qV PassesOwn.never rfl (zAz (zD 4 (pv 4))) (zW 6 hN ⋯ (.inl ⋯) (.inl rfl)) (zL (zEr 7 (pv 7) (zAG (nm:=["_law_pair"]) (m:=1) rfl rfl ⋯ ⋯ (zBv (zU (zE (zU (zE (zU (zB 0 (pv 0)) (zE zF))) (zB 6 (pv 6)))) (zE zF))) (yK (show 11<=11 by decide)) (λC s₃ H₃ ex=>(zW 11 (yu (nm:=["_law_pair"]) ⋯) ⋯ (.inl ⋯) (.inr ⋯))) (λC s₃ H₃ ex=>.inl ⟨rfl,rfl⟩) (λC s₃ H₃ ex=>(zU (zB 11 (pv 11)) (zE zF))))))) (zH (yQ 8 (yJ zG) hN ⋯ (.inl ⋯)) (zH (qV PassesOwn.never rfl (zAz (zV (zJz rfl (gl ⋯) hT.sorted (gl ⋯) hS (zB 7 (pv 7))))) (zW 9 hN ⋯ (.inr ⋯) (.inl rfl)) (zH (yQ 10 (yJ zG) hN ⋯ (.inl ⋯)) (zH (qV PassesOwn.never rfl (zAz (zD 4 (pv 4))) (zW 6 hN ⋯ (.inl ⋯) (.inl rfl)) (zL (zEr 10 (pv 10) (zAG (nm:=["_law_pair"]) (m:=1) rfl rfl ⋯ ⋯ (zBv (zU (zE (zU (zE (zU (zB 0 (pv 0)) (zE zF))) (zB 6 (pv 6)))) (zE zF))) (yK (show 11<=11 by decide)) (λC s₃ H₃ ex=>(zW 11 (yu (nm:=["_law_pair"]) ⋯) ⋯ (.inl ⋯) (.inr ⋯))) (λC s₃ H₃ ex=>.inr ⟨_,rfl,(z8 (yi hu) (zE (zU (zB 11 (pv 11)) (zE zF))) (zB 9 (pv 9)) (zl _))⟩) (λC s₃ H₃ ex=>(zU (zB 11 (pv 11)) (zE zF))))))) (zOx 10 (zH (zd 10 (zJ h_law_apart ∅ ⋯ rfl (zA (zD 0 (pv 0)) (zA (zD 1 (pv 1)) (zA (zD 10 (pv 10)) zG)))) hN ⋯ (.inl ⋯)) (zH (qA (zK3 hu (zD 10 (pv 10)) (zSv 3 (pv 3)) (by rfl)) (zL (zQr 3 (pv 3) (zD 10 (pv 10)))) yA) (zL (yG 8 (pv 8) (zT (zA (zD 9 (pv 9)) (zA (zN0 hu (zSv 3 (pv 3)) (zD 10 (pv 10))) zG))))))))))) (zL (zEv (zT (zA (zU (zE (zU (zB 5 (pv 5)) (zE zF))) (zE zF)) (zA (zU (zE (zU (zB 5 (pv 5)) (zE zF))) (zE zF)) (zA (yC yW (gl ⋯) hT.tuple qm (zB 8 (pv 8))) zG))))))))))))))))
theorem zFN:zZ zDp ["_law_dance_here","_law_dancer"] (zI zDR):=by right
theorem zKG (h_law_apart:zp P w K mg base 1 "_law_apart" 3 yg) (h_law_state:zQv P w K mg base 2 "_law_state" 4 yS) (hT:Bl mg) (hCl:Cl K mg κ):TD P w K mg base 2 zDp "_law_part" zDR zCJ:=by
 intro fa cdv A outer s H hr
 have hN:=zFN.nd
 exact (zH (yQ 2 (yJ (zA (zJ h_law_apart ∅ ⋯ rfl (zA (zD 0 (pv 0)) (zA (zD 1 (pv 1)) (zA (zT (zA zF zG)) zG)))) zG)) hN ⋯ (.inl ⋯)) (zH (yQ 3 (yJ zG) hN ⋯ (.inl ⋯)) (zH (zGD 20000000 PassesOwn.never (z8 (zK4) (zE (zw zo (gl ⋯) hT.len PySem.boot_len (zB 3 (pv 3)))) (zE (zw zo (gl ⋯) hT.len PySem.boot_len (zB 2 (pv 2)))) (zl _)) (zH (zN2 2 4 h_law_state ∅ ⋯ rfl (zGT (zD 0 (pv 0)) (zGT (zD 1 (pv 1)) (zGT (zU (zB 2 (pv 2)) (zE (zw zo (gl ⋯) hT.len PySem.boot_len (zB 3 (pv 3))))) (zQt 2 (pv 2))))) hN ⋯ (.inl ⋯)) (zH (qA (z8 (zO2) (zB 4 (pv 4)) (zE zDw) (zl _)) (zL (z7 zDw)) yA) (zL (yG 3 (pv 3) (zD 4 (pv 4))))))) (zL (z7 (yC yW (gl ⋯) hT.tuple qm (zB 3 (pv 3))))))))
theorem zDL:zZ zB3 ["_law_dance_here","_law_cell_here"] (zI zBr):=by right
theorem zHl (h_law_mix:zp P w K mg base 1 "_law_mix" 3 zQ) (hT:Bl mg) (hCl:Cl K mg κ):TD P w K mg base 1 zB3 "_law_spoilt" zBr zAv:=by
 intro fa cdv A outer s H hr
 have hu:=zHp hr
 have hN:=zDL.nd
 exact (zH (zOz (zD 0 (pv 0)) (zFi rfl (qK (zW 2 hN ⋯ (.inl ⋯) (.inl rfl)) (qK (zW 3 hN ⋯ (.inl ⋯) (.inl rfl)) zDV)))) (zH (zd 4 (zJ h_law_mix ∅ ⋯ rfl (zA (zD 1 (pv 1)) (zA zF (zA (zw zo (gl ⋯) hT.len PySem.boot_len (zB 3 (pv 3))) zG)))) hN ⋯ (.inl ⋯)) (zH (zd 5 (zU (zB 3 (pv 3)) (zB 4 (pv 4))) hN ⋯ (.inl ⋯)) (zH (qA (z8 (yi hu) (zB 5 (pv 5)) (zE (zT (zA zn zG))) (zl _)) (zL (zd 5 (zT (zA zn (zA (za qj (zB 1 (pv 1)) (zB 2 (pv 2))) (zA (za qj (zE (za zX (zB 1 (pv 1)) (zE zF))) (zB 2 (pv 2))) (zA (zT (zA (zT (zA zn (zA (zJ h_law_mix ∅ ⋯ rfl (zA (zD 1 (pv 1)) (zA zF (zA (zw zo (gl ⋯) hT.len PySem.boot_len (zB 3 (pv 3))) zG)))) zG))) zG)) zG))))) hN ⋯ (.inl ⋯))) yA) (zH (zd 6 (zJ h_law_mix ∅ ⋯ rfl (zA (zD 1 (pv 1)) (zA zF (zA zF zG)))) hN ⋯ (.inl ⋯)) (zH (zOz (zU (zE (zU (zB 5 (pv 5)) (zE zF))) (zE (zHA (zE zF)))) (zFi rfl (qK (zW 7 hN ⋯ (.inl ⋯) (.inl rfl)) (qK (zW 8 hN ⋯ (.inl ⋯) (.inl rfl)) zDV)))) (zH (qA (z8 (yi hu) (zB 6 (pv 6)) (zE zF) (zl _)) (zL (zd 5 (za zX (zE (qL (zB 5 (pv 5)) zAX (qO zF))) (zE (zT (zA (za zX (zE (qL (zE (zU (zB 5 (pv 5)) (zE zF))) zAX (qO (zHA (zE zF))))) (zE (zT (zA (zT (zA (zD 7 (pv 7)) (zA (zJ h_law_mix ∅ ⋯ rfl (zA (zD 1 (pv 1)) (zA zF (zA (zw zo (gl ⋯) hT.len PySem.boot_len (zB 3 (pv 3))) zG)))) zG))) zG)))) zG)))) hN ⋯ (.inl ⋯))) yA) (zH (qA (z8 (yi hu) (zB 6 (pv 6)) (zE zF) (zl _)) (zL (zd 5 (zT (zA zn (zA (zU (zB 5 (pv 5)) (zE zF)) (zA (zU (zB 5 (pv 5)) (zE zF)) (zA (zU (zB 5 (pv 5)) (zE zF)) zG))))) hN ⋯ (.inl ⋯))) yA) (zH (qA (z8 (yi hu) (zB 6 (pv 6)) (zE zF) (zl _)) (zL (zd 5 (za zX (zE (qL (zB 5 (pv 5)) zAX (qO zF))) (zE (zT (zA (za zX (zE (qL (zE (zU (zB 5 (pv 5)) (zE zF))) zAX (qO (zHA (zE zF))))) (zE (zT (zA (zT (zA (za zX (zE (qL (zB 7 (pv 7)) zAX (qO zF))) (zE zn)) (zA (zD 8 (pv 8)) zG))) zG)))) zG)))) hN ⋯ (.inl ⋯))) yA) (zH (qA (z8 (yi hu) (zB 6 (pv 6)) (zE zF) (zl _)) (zL (zd 5 (za zX (zE (qL (zB 5 (pv 5)) zAX (qO zF))) (zE (zT (zA (qL (zE (zU (zB 5 (pv 5)) (zE zF))) (qO (zHA (zE zF))) zAX) zG)))) hN ⋯ (.inl ⋯))) yA) (zH (qA (z8 (yi hu) (zB 6 (pv 6)) (zE zF) (zl _)) (zL (zd 5 (zT (zA zn zG)) hN ⋯ (.inl ⋯))) yA) (zL (z7 (zT (zA (zD 2 (pv 2)) (zA (za zX (zE (za zX (zE (qL (zB 3 (pv 3)) zAX (qO (zD 4 (pv 4))))) (zE (zT (zA (zD 5 (pv 5)) zG))))) (zE (qL (zB 3 (pv 3)) (qO (za zX (zB 4 (pv 4)) (zE zF))) zAX))) zG))))))))))))))))
theorem zBk:zZ zAl ["_law_dance_here","_law_dancer"] (zI zAS):=by right
theorem zFO (h_part_of:zNc P w K mg base κ 5 "part_of" 2 zAD) (hT:Bl mg) (hCl:Cl K mg κ):TD P w K mg base 5 zAl "_law_told_part" zAS qg:=by
 intro fa cdv A outer s H hr
 have hN:=zBk.nd
 obtain ⟨hE_NoPart,hM_NoPart,hM_NoMove,hM_ReelError,hX3,hS,hV⟩:=hCl
 exact (zH (zd 2 zn hN ⋯ (.inl ⋯)) (zH (zN6 2 3 0 h_part_of ∅ ⋯ rfl (zA (zD 0 (pv 0)) (zA (zD 1 (pv 1)) zG)) rfl hX3 (gl ⋯) hM_ReelError rfl rfl hN ⋯ ⋯ ⋯ ⋯ (by decide) (gl ⋯) hT.isinstance (gl ⋯) hV (gl ⋯) hM_NoPart (gl ⋯) hM_NoMove) (zL (z7 (zD 2 (pv 2))))))
theorem zPZ:zZ zRW ["_law_script"] (zI zF6):=by right
theorem d_law (h_law_dance:zp P w K mg base 4 "_law_dance" 1 zAc) (h_is_fair:zp P w K mg base 6 "is_fair" 1 zDK) (h_law_sly:zp P w K mg base 3 "_law_sly" 1 zAm) (h_law_part:zp P w K mg base 3 "_law_part" 2 zBF) (h_law_cell:zp P w K mg base 1 "_law_cell" 2 z6) (h_law_spoilt:zp P w K mg base 2 "_law_spoilt" 2 yx) (h_law_told_part:zp P w K mg base 6 "_law_told_part" 2 qh) (hT:Bl mg) (hCl:Cl K mg κ):TD P w K mg base 6 zRW "law" zF6 zOT:=by
 intro fa cdv A outer s H hr
 have hu:=zHp hr
 have hN:=zPZ.nd
 exact (zH (zd 1 (zJ h_law_dance ∅ ⋯ rfl (zA (zD 0 (pv 0)) zG)) hN ⋯ (.inl ⋯)) (zH (qV PassesOwn.never rfl (zAz (zV (zCy (zE (zV (zCy (zE (zV (yJ (zA zDw zG)))) (zE (zV (zEe zEi (gl ⋯) hT.list zLH (zE (zV (zNQ (zB 0 (pv 0)) (qO zF) (qO zF)))))))))) (zE (zV (yJ (zA zn zG))))))) (zW 2 hN ⋯ (.inl ⋯) (.inl rfl)) (zH (zd 3 (zD 1 (pv 1)) hN ⋯ (.inl ⋯)) (zH (qA (z8 (yi hu) (zB 2 (pv 2)) (zE zn) (zl _)) (zL (zd 3 (zJ h_law_sly ∅ ⋯ rfl (zA (zJ h_law_cell ∅ ⋯ rfl (zA (zD 0 (pv 0)) (zA zF zG))) zG)) hN ⋯ (.inl ⋯))) (zL (qA (z8 (zK5) (zB 2 (pv 2)) (zE zDw) (zl _)) (zL (zd 3 (zJ h_law_spoilt ∅ ⋯ rfl (zA (zD 1 (pv 1)) (zA (zD 2 (pv 2)) zG))) hN ⋯ (.inl ⋯))) yA))) (zH (zd 4 zG7 hN ⋯ (.inl ⋯)) (zH (qV PassesOwn.never rfl (yr (gl ⋯) hT.range (zA (zU (zB 3 (pv 3)) (zE zF)) zG)) (zW 5 hN ⋯ (.inl ⋯) (.inl rfl)) (zH (zd 6 (zJ h_law_part ∅ ⋯ rfl (zA (zD 3 (pv 3)) (zA (zD 5 (pv 5)) zG))) hN ⋯ (.inl ⋯)) (zH (zd 4 (zKx (zD 4 (pv 4)) (zIu (zDx (zK5) (zB 6 (pv 6)) (zE zDw) (zl _)))) hN ⋯ (.inl ⋯)) (zL (qA (z8 (zIx hu) (zE (zJ h_law_told_part ∅ ⋯ rfl (zA (zD 3 (pv 3)) (zA (zD 5 (pv 5)) zG)))) (zB 6 (pv 6)) (zl _)) (zL (z7 zG7)) yA))))) (zH (zd 7 (zJ h_is_fair ∅ ⋯ rfl (zA (zD 3 (pv 3)) zG)) hN ⋯ (.inl ⋯)) (zL (qA (zRn (zP7 (zFg (zCN (zE (zSh (T:="bool") (by decide) (gl ⋯) hT.isinstance (gl ⋯) hT.bool zSd (zB 7 (pv 7)))))) (zP7 (z8 (zIx hu) (zB 7 (pv 7)) (zB 4 (pv 4)) (zl _)) (zOu (zRn (zG9 (z8 (zO2) (zB 2 (pv 2)) (zE zDw) (zl _)) (zGC (zFg (zCN (zB 4 (pv 4))))))))))) (zL (z7 zG7)) yA)))))))) (zL (z7 zG7))))
end
end K04
namespace K04
open PySem PySem.Spec PyProof.Rows L2 RD LG
def zM2 (ds:List D):Option D:=by
 classical exact if ∃ ns:List Int,ds = [.lst (ns.map D.int)]/\ns.length<=63 then some (.bl true) else none
theorem zCe.fn {K:Fg} {f:Addr} {x q:Str} {st:Stmt} (h:zCe K f x q st):∃ fd,Fun K x q st f fd:=by
 obtain ⟨_,_,_,_,_,_,_,_,_,l,c,k⟩:=h
 exact ⟨_,zOr l c k⟩
theorem zKH {us:List Value} (h:us.length=1):∃ a,us = [a]:=List.length_eq_one_iff.mp h
theorem zOe {us:List Value} {n:Nat} (h:us.length=n+1):∃ a l,us=a::l/\l.length=n:=by
 cases us with
 |nil=>cases h
 |cons a l=>exact ⟨a,l,rfl,Nat.succ.inj h⟩
theorem zDM {us:List Value} (h:us.length=2):∃ a b,us = [a,b]:=by
 obtain ⟨a,_,rfl,j⟩:=zOe h
 obtain ⟨b,rfl⟩:=zKH j
 exact ⟨a,b,rfl⟩
theorem zIk {us:List Value} (h:us.length=3):∃ a b c,us = [a,b,c]:=by
 obtain ⟨a,_,rfl,j⟩:=zOe h
 obtain ⟨b,c,rfl⟩:=zDM j
 exact ⟨a,b,c,rfl⟩
theorem zM3 {us:List Value} (h:us.length=4):∃ a b c d,us = [a,b,c,d]:=by
 obtain ⟨a,_,rfl,j⟩:=zOe h
 obtain ⟨b,c,d,rfl⟩:=zIk j
 exact ⟨a,b,c,d,rfl⟩
theorem len_5 {us:List Value} (h:us.length=5):∃ a b c d e,us = [a,b,c,d,e]:=by
 obtain ⟨a,_,rfl,j⟩:=zOe h
 obtain ⟨b,c,d,e,rfl⟩:=zM3 j
 exact ⟨a,b,c,d,e,rfl⟩
theorem all_mk {l:PySem.W.OpenLaw} {w:World} {K:Fg} {h:Heap} {mg:MGt} {fa:Addr} (X:K.In h) (G:h.Ns mainGlobals mg) (hfa:mg "law" = some (.ref fa)) (hF:zOf K)
  : ∃ fd:FuncData,(∀ (s:Shared) (v:Value),BindsTo s fd ⟨[v],[]⟩ [("_law_script",v)])/\∀ base:Heap,K.In base->base.Ns mainGlobals mg->zF8 l.prog w K mg base CX0 7 fa fd ["_law_script"] (spD K zM2 1):=by
 refine hF _ @λnp nv re f0 f1 f2 f3 f4 f5 f6 f7 f8 f9 f10 f11 f12 f13 f14 f15 f16 f17 f18 f19 f20 f21 f22 f23 f24 f25 f26 f27 f28 f29 odL anL slL ocL kVL dcL pmL cdL ctL aN aV aR a0 p0 a1 p1 a2 p2 a3 p3 a4 p4 a5 p5 a6 p6 a7 p7 a8 p8 a9 p9 a10 p10 a11 p11 a12 p12 a13 p13 a14 p14 a15 p15 a16 p16 a17 p17 a18 p18 a19 p19 a20 p20 a21 p21 a22 p22 a23 p23 a24 p24 a25 p25 a26 p26 a27 p27 a28 p28 a29 l29 c29 k29 z_len z_range z_enumerate z_sorted z_tuple z_list z_int z_dict z_isinstance z_all z_any z_str z_bool q7 x1 x2 x3 x4 x5 x6 x7 x8 x9 y0 y1 y2 y3 y4 y5 y6 y7 z_set z_ValueError=>?_
 have e:=hfa.symm.trans (PySem.W.mg_of X G a29)
 cases e
 have hT:Bl mg:=⟨PySem.W.mg_none_of X G z_len,PySem.W.mg_none_of X G z_range,PySem.W.mg_none_of X G z_enumerate,PySem.W.mg_none_of X G z_sorted,PySem.W.mg_none_of X G z_tuple,PySem.W.mg_none_of X G z_list,PySem.W.mg_none_of X G z_int,PySem.W.mg_none_of X G z_dict,PySem.W.mg_none_of X G z_isinstance,PySem.W.mg_none_of X G z_all,PySem.W.mg_none_of X G z_any,PySem.W.mg_none_of X G z_str,PySem.W.mg_none_of X G z_bool⟩
 have hCl:Cl K mg (λi=>if i=0 then np else if i=1 then nv else re):=⟨q7,PySem.W.mg_of X G aN,PySem.W.mg_of X G aV,PySem.W.mg_of X G aR,⟨⟨x1,x2,x3,x4,x5⟩,x6,x7,x8,x9,y0,by simpa using y1,y2,y3,y4,y5,y6,y7⟩,PySem.W.mg_none_of X G z_set,PySem.W.mg_none_of X G z_ValueError⟩
 obtain ⟨_,F0⟩:=p0.fn
 have b0:=F0.binds (ps:=["_law_cell_here","_law_prime","_law_many"]) λ_ _ _ _ _ _ us hl=>by obtain ⟨_,_,_,rfl⟩:=zIk hl;rfl
 obtain ⟨_,F1⟩:=p1.fn
 have b1:=F1.binds (ps:=["_law_script","_law_k"]) λ_ _ _ _ _ _ us hl=>by obtain ⟨_,_,rfl⟩:=zDM hl;rfl
 obtain ⟨_,F2⟩:=p2.fn
 have b2:=F2.binds (ps:=["_law_cell_here","_law_many"]) λ_ _ _ _ _ _ us hl=>by obtain ⟨_,_,rfl⟩:=zDM hl;rfl
 obtain ⟨_,F3⟩:=p3.fn
 have b3:=F3.binds (ps:=["_law_start","_law_goals","_law_one","_law_others","_law_words"]) λ_ _ _ _ _ _ us hl=>by obtain ⟨_,_,_,_,_,rfl⟩:=len_5 hl;rfl
 obtain ⟨_,F4⟩:=p4.fn
 have b4:=F4.binds (ps:=["_law_cell_here","_law_j"]) λ_ _ _ _ _ _ us hl=>by obtain ⟨_,_,rfl⟩:=zDM hl;rfl
 obtain ⟨_,F5⟩:=p5.fn
 have b5:=F5.binds (ps:=["_law_cell_here","_law_start","_law_many","_law_goals"]) λ_ _ _ _ _ _ us hl=>by obtain ⟨_,_,_,_,rfl⟩:=zM3 hl;rfl
 obtain ⟨_,F6⟩:=p6.fn
 have b6:=F6.binds (ps:=["_law_cell_here","_law_many"]) λ_ _ _ _ _ _ us hl=>by obtain ⟨_,_,rfl⟩:=zDM hl;rfl
 obtain ⟨_,F7⟩:=p7.fn
 have b7:=F7.binds (ps:=["_law_cell_here","_law_here","_law_many","_law_goal"]) λ_ _ _ _ _ _ us hl=>by obtain ⟨_,_,_,_,rfl⟩:=zM3 hl;rfl
 obtain ⟨_,F8⟩:=p8.fn
 have b8:=F8.binds (ps:=["_law_script"]) λ_ _ _ _ _ _ us hl=>by obtain ⟨_,rfl⟩:=zKH hl;rfl
 obtain ⟨_,F9⟩:=p9.fn
 have b9:=F9.binds (ps:=["place","dancer"]) λ_ _ _ _ _ _ us hl=>by obtain ⟨_,_,rfl⟩:=zDM hl;rfl
 obtain ⟨_,F10⟩:=p10.fn
 have b10:=F10.binds (ps:=["place","dancer"]) λ_ _ _ _ _ _ us hl=>by obtain ⟨_,_,rfl⟩:=zDM hl;rfl
 obtain ⟨_,F11⟩:=p11.fn
 have b11:=F11.binds (ps:=["dance","dancer","some"]) λ_ _ _ _ _ _ us hl=>by obtain ⟨_,_,_,rfl⟩:=zIk hl;rfl
 obtain ⟨_,F12⟩:=p12.fn
 have b12:=F12.binds (ps:=["place"]) λ_ _ _ _ _ _ us hl=>by obtain ⟨_,rfl⟩:=zKH hl;rfl
 obtain ⟨_,F13⟩:=p13.fn
 have b13:=F13.binds (ps:=["dance","dancer","some"]) λ_ _ _ _ _ _ us hl=>by obtain ⟨_,_,_,rfl⟩:=zIk hl;rfl
 obtain ⟨_,F14⟩:=p14.fn
 have b14:=F14.binds (ps:=["dance","dancer"]) λ_ _ _ _ _ _ us hl=>by obtain ⟨_,_,rfl⟩:=zDM hl;rfl
 obtain ⟨_,F15⟩:=p15.fn
 have b15:=F15.binds (ps:=["dancer","some","turns","vain"]) λ_ _ _ _ _ _ us hl=>by obtain ⟨_,_,_,_,rfl⟩:=zM3 hl;rfl
 obtain ⟨_,F16⟩:=p16.fn
 have b16:=F16.binds (ps:=["turn","dancer"]) λ_ _ _ _ _ _ us hl=>by obtain ⟨_,_,rfl⟩:=zDM hl;rfl
 obtain ⟨_,F17⟩:=p17.fn
 have b17:=F17.binds (ps:=["turns","dancer"]) λ_ _ _ _ _ _ us hl=>by obtain ⟨_,_,rfl⟩:=zDM hl;rfl
 obtain ⟨_,F18⟩:=p18.fn
 have b18:=F18.binds (ps:=["turns"]) λ_ _ _ _ _ _ us hl=>by obtain ⟨_,rfl⟩:=zKH hl;rfl
 obtain ⟨_,F19⟩:=p19.fn
 have b19:=F19.binds (ps:=["dance","dancer"]) λ_ _ _ _ _ _ us hl=>by obtain ⟨_,_,rfl⟩:=zDM hl;rfl
 obtain ⟨_,F20⟩:=p20.fn
 have b20:=F20.binds (ps:=["dance"]) λ_ _ _ _ _ _ us hl=>by obtain ⟨_,rfl⟩:=zKH hl;rfl
 obtain ⟨_,F21⟩:=p21.fn
 have b21:=F21.binds (ps:=["_law_cell_here"]) λ_ _ _ _ _ _ us hl=>by obtain ⟨_,rfl⟩:=zKH hl;rfl
 obtain ⟨_,F22⟩:=p22.fn
 have b22:=F22.binds (ps:=["_law_dance_here","_law_dancer","_law_some"]) λ_ _ _ _ _ _ us hl=>by obtain ⟨_,_,_,rfl⟩:=zIk hl;rfl
 obtain ⟨_,F23⟩:=p23.fn
 have b23:=F23.binds (ps:=["_law_dance_here","_law_dancer","_law_some"]) λ_ _ _ _ _ _ us hl=>by obtain ⟨_,_,_,rfl⟩:=zIk hl;rfl
 obtain ⟨_,F24⟩:=p24.fn
 have b24:=F24.binds (ps:=["_law_dance_here","_law_dancer","_law_turns_here"]) λ_ _ _ _ _ _ us hl=>by obtain ⟨_,_,_,rfl⟩:=zIk hl;rfl
 obtain ⟨_,F25⟩:=p25.fn
 have b25:=F25.binds (ps:=["_law_dance_here","_law_dancer","_law_some","_law_known"]) λ_ _ _ _ _ _ us hl=>by obtain ⟨_,_,_,_,rfl⟩:=zM3 hl;rfl
 obtain ⟨_,F26⟩:=p26.fn
 have b26:=F26.binds (ps:=["_law_dance_here","_law_dancer"]) λ_ _ _ _ _ _ us hl=>by obtain ⟨_,_,rfl⟩:=zDM hl;rfl
 obtain ⟨_,F27⟩:=p27.fn
 have b27:=F27.binds (ps:=["_law_dance_here","_law_cell_here"]) λ_ _ _ _ _ _ us hl=>by obtain ⟨_,_,rfl⟩:=zDM hl;rfl
 obtain ⟨_,F28⟩:=p28.fn
 have b28:=F28.binds (ps:=["_law_dance_here","_law_dancer"]) λ_ _ _ _ _ _ us hl=>by obtain ⟨_,_,rfl⟩:=zDM hl;rfl
 have F29:=zOr (st:=zF6) l29 c29 k29
 refine ⟨PySem.W.fnOf "law" "law" (zCY zF6) (ye zF6) (zI zF6) .none kVL dcL pmL anL cdL ctL,λs v=>.of_eq rfl,λbase _ _=>?_⟩
 have h_law_mix:zp l.prog w K mg base 1 "_law_mix" 3 zQ:=yt F0 (PySem.W.mg_of X G a0) b0 zKA (zMw  hT hCl) (λ_ _ _ h=>h)
 have h_law_cell:zp l.prog w K mg base 1 "_law_cell" 2 z6:=yt F1 (PySem.W.mg_of X G a1) b1 zId (zKB  hT hCl) (λ_ _ _ h=>h)
 have h_law_is_late:zp l.prog w K mg base 1 "_law_is_late" 2 yL:=yt F2 (PySem.W.mg_of X G a2) b2 zFa (zGn  hT hCl) (λ_ _ _ h=>h)
 have h_law_told_late:zp l.prog w K mg base 1 "_law_told_late" 5 yv:=yt F3 (PySem.W.mg_of X G a3) b3 zBh (zFI  hT hCl) (λ_ _ _ h=>h)
 have h_law_word:zp l.prog w K mg base 2 "_law_word" 2 zk:=yt F4 (PySem.W.mg_of X G a4) b4 zFJ (zKC h_law_mix hT hCl) (λ_ _ _ h=>h)
 have h_law_told_on:zp l.prog w K mg base 3 "_law_told_on" 4 qW:=yt F5 (PySem.W.mg_of X G a5) b5 zCW (zGo h_law_mix h_law_is_late h_law_told_late h_law_word hT hCl) (λ_ _ _ h=>h)
 have h_law_size:zp l.prog w K mg base 2 "_law_size" 2 zBC:=yt F6 (PySem.W.mg_of X G a6) b6 zFK (zKD h_law_is_late h_law_mix hT hCl) (λ_ _ _ h=>h)
 have h_law_apart_two:zp l.prog w K mg base 3 "_law_apart_two" 4 yY:=yt F7 (PySem.W.mg_of X G a7) b7 zBi (zFL h_law_mix h_law_word hT hCl) (λ_ _ _ h=>h)
 have h_law_dance:zp l.prog w K mg base 4 "_law_dance" 1 zAc:=yt F8 (PySem.W.mg_of X G a8) b8 zD4 (zIe h_law_mix h_law_cell h_law_told_on h_law_size h_law_apart_two hT hCl) (λ_ _ _ h=>h)
 have h_takes_part:zp l.prog w K mg base 1 "takes_part" 2 yd:=yt F9 (PySem.W.mg_of X G a9) b9 zGp (zHi  hT hCl) (λ_ _ _ h=>h)
 have h_is_turn:zp l.prog w K mg base 2 "is_turn" 2 zBD:=yt F10 (PySem.W.mg_of X G a10) b10 zKE (zMx h_takes_part hT hCl) (λ_ _ _ h=>h)
 have h_turns_among:zp l.prog w K mg base 3 "turns_among" 3 yM:=yt F11 (PySem.W.mg_of X G a11) b11 zCX (zGq h_is_turn hT hCl) (λ_ _ _ h=>h)
 have h_choices_of:zp l.prog w K mg base 1 "choices_of" 1 yb:=yt F12 (PySem.W.mg_of X G a12) b12 zGr (zHj  hT hCl) (λ_ _ _ h=>h)
 have h_apart:zp l.prog w K mg base 2 "apart" 3 qa:=yt F13 (PySem.W.mg_of X G a13) b13 zJh (zRm h_takes_part h_choices_of hT hCl) (λ_ _ _ h=>h)
 have h_in_vain:zSo l.prog w K mg base 4 "in_vain" 2 zAC:=⟨_,_,_,zPB F14 zF2 (zMy h_turns_among h_apart hT hCl) (λ_ _ _ h=>h),PySem.W.mg_of X G a14,F14.kp,b14⟩
 have h_refuse_waiting_in_vain:zQh l.prog w K mg base (λi=>if i=0 then np else if i=1 then nv else re) 1 "refuse_waiting_in_vain" 4 zr:=⟨_,_,_,zQg F15 zA5 (zBG  hT hCl) (λa _ _ _ _ h=>zI8 h a),PySem.W.mg_of X G a15,F15.kp,b15⟩
 have h_asked_at:zp l.prog w K mg base 1 "asked_at" 2 qo:=yt F16 (PySem.W.mg_of X G a16) b16 zIf (zKF  hT hCl) (λ_ _ _ h=>h)
 have h_asked_at_all:zNc l.prog w K mg base (λi=>if i=0 then np else if i=1 then nv else re) 2 "asked_at_all" 2 yE:=⟨_,_,_,zPA F17 zCA (zFb h_asked_at hT hCl) (λ_ _ _ h=>h),PySem.W.mg_of X G a17,F17.kp,b17⟩
 have h_nexts_by_word:zSo l.prog w K mg base 2 "nexts_by_word" 1 yy:=⟨_,_,_,zPB F18 zBj (zFM h_choices_of hT hCl) (λ_ _ _ h=>h),PySem.W.mg_of X G a18,F18.kp,b18⟩
 have h_part_of:zNc l.prog w K mg base (λi=>if i=0 then np else if i=1 then nv else re) 5 "part_of" 2 zAD:=⟨_,_,_,zPA F19 zF3 (zMz h_in_vain h_apart h_turns_among h_refuse_waiting_in_vain h_asked_at_all h_nexts_by_word hT hCl) (λ_ _ _ h=>h),PySem.W.mg_of X G a19,F19.kp,b19⟩
 have h_is_fair:zp l.prog w K mg base 6 "is_fair" 1 zDK:=yt F20 (PySem.W.mg_of X G a20) b20 zF4 (zM0 h_part_of hT hCl) (λ_ _ _ h=>h)
 have h_law_sly:zp l.prog w K mg base 3 "_law_sly" 1 zAm:=yt F21 (PySem.W.mg_of X G a21) b21 zF5 (zM1 h_law_word hT hCl) (λ_ _ _ h=>h)
 have h_law_apart:zp l.prog w K mg base 1 "_law_apart" 3 yg:=yt F22 (PySem.W.mg_of X G a22) b22 zD5 (zIg  hT hCl) (λ_ _ _ h=>h)
 have h_law_turns:zp l.prog w K mg base 1 "_law_turns" 3 qQ:=yt F23 (PySem.W.mg_of X G a23) b23 zHk (zIh  hT hCl) (λ_ _ _ h=>h)
 have h_law_kinds:zp l.prog w K mg base 1 "_law_kinds" 3 zBd:=yt F24 (PySem.W.mg_of X G a24) b24 zD6 (zIi  hT hCl) (λ_ _ _ h=>h)
 have h_law_state:zQv l.prog w K mg base 2 "_law_state" 4 yS:=⟨_,_,_,zQu F25 zD7 (zIj h_law_turns h_law_kinds h_law_apart hT hCl) (λa _ _ _ _ h=>zI8 h a),PySem.W.mg_of X G a25,F25.kp,b25⟩
 have h_law_part:zp l.prog w K mg base 3 "_law_part" 2 zBF:=yt F26 (PySem.W.mg_of X G a26) b26 zFN (zKG h_law_apart h_law_state hT hCl) (λ_ _ _ h=>h)
 have h_law_spoilt:zp l.prog w K mg base 2 "_law_spoilt" 2 yx:=yt F27 (PySem.W.mg_of X G a27) b27 zDL (zHl h_law_mix hT hCl) (λ_ _ _ h=>h)
 have h_law_told_part:zp l.prog w K mg base 6 "_law_told_part" 2 qh:=yt F28 (PySem.W.mg_of X G a28) b28 zBk (zFO h_part_of hT hCl) (λ_ _ _ h=>h)
 exact zSY F29 zPZ (d_law h_law_dance h_is_fair h_law_sly h_law_part h_law_cell h_law_spoilt h_law_told_part hT hCl) (λds d _ h=>by
  unfold zM2 at h
  split at h
  ·rename_i q
   obtain ⟨ns,rfl,hl⟩:=q
   cases h
   exact law_is ns hl
  ·cases h)
theorem walk {l:PySem.W.OpenLaw} {q:Program} {loose:List Str} {XP:(Str->Option Value)->Heap->Prop} {YP:World->Heap->Prop} {d:DefRec} {K:Params->Fg} (hn:l.most=some 63) (hdf:d.params.defaults = [])
  (hY:∀ (w:World) (h:Heap),YP w h->(K w.params).In h)
  (F:∀ (w:World) (mg:MGt) (fa:Addr) (h:Heap),(K w.params).In h->h.Ns mainGlobals mg->mg d.name=some (.ref fa) ->
   ∃ fd:FuncData,(∀ (s:Shared) (u:Value),BindsTo s fd ⟨[u],[]⟩ [("_law_script",u)])/\∀ base:Heap,(K w.params).In base->base.Ns mainGlobals mg->zF8 l.prog w (K w.params) mg base CX0 7 fa fd ["_law_script"] (spD (K w.params) zM2 1)) :
  PySem.W.WalkO q loose XP YP l.row.toRowW d [] (λf vs=>PySem.call f vs):=
 L2.zKs (n:=63) (k:=7) (x:="_law_script") (CX:=λ_=>CX0) (sp:=λw=>spD (K w.params) zM2 1) hn (by decide) hdf ⟨rfl,by decide,by decide⟩ hY F (λw H a ns hl _ hS=>by
  refine ⟨H,[.lst (ns.map D.int)],.bl true,zu.refl _,Reps.cons (zAy.mpr ⟨a,_,rfl,hS,Reps.ints ns⟩) Reps.nil,rfl,?_,λv G' H' _ r=>yT.mp r⟩
  unfold zM2
  exact if_pos ⟨ns,rfl,hl⟩) λ_ _ _ _ _ z=>z
end K04
end
open PySem PySem.W PyProof.Rows
theorem PySem.Challenge.cw_reelhall_k04_whole_parts_by_hand_holds : PySem.Challenge.rw_reelhall_k04_whole_parts_by_hand.Holds :=
 K04.headT λhdf hdn hY hF=>K04.walk (l:=PySem.Challenge.rw_reelhall_k04_whole_parts_by_hand) rfl hdf hY λw mg fa h KX G hmg=>K04.all_mk KX G (hdn ▸ hmg) (hF w)
